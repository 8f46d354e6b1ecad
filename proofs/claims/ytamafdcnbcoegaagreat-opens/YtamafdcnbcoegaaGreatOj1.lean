/- Part 1. -/
import Derived.Below
import Derived.Test.YtamafdcnbcoegaaGreatRows
import Derived.WalkKit
import Derived.WalkSpells
import Derived.WalkLawsBesides
import Derived.Deep.QuietTactic
import Derived.BigQuiet
import Derived.Lib.EndianBits
import Derived.Lib.AppendStr
import Derived.Deep.Cut
import Derived.Deep.CutRange
import Derived.Deep.CutBlock
import Derived.Deep.RegionHeld3
import Derived.Laws.ResultCell
import Derived.Laws.CopyOwn
import Derived.Laws.IdiomStrings
import Derived.OrdersIn
set_option maxRecDepth 100000
set_option maxHeartbeats 40000000
namespace Go.Proofs.YtamafdcnbcoegaaGreat
abbrev z10:=ByteArray
abbrev z11:= @Go.RowKit.Below.refl
abbrev z12:= @And.intro
abbrev z13:= @Nat.le_refl
abbrev z14:= @Go.lt_of_block
abbrev z15:= @Go.World.ownsRow.lt
abbrev z17:= @List.getD_eq_getElem?_getD
abbrev z18:= @List.getElem?_eq_getElem
abbrev z20:= @Nat.lt_of_lt_of_le
abbrev z21:= @Array.getElem?_eq_some_iff
abbrev z25:= @Go.RowKit.Below.heap_alloc
abbrev z26:= @Nat.le_trans
abbrev z27:= @Go.World.ownsRow_nil
abbrev z29:= @List.getElem?_append_right
abbrev z35:= @List.length_append
abbrev z36:= @Go.IntKind.wrap_i64
abbrev z41:= @Go.below_drewN
abbrev z42:= @Array.getD_eq_getD_getElem?
abbrev z44:= @Nat.zero_add
abbrev z45:= @List.getElem?_append_left
abbrev z46:= @List.take_of_length_le
abbrev z47:= @decide_eq_true
abbrev z48:= @List.map_cons
abbrev z49:= @Array.all_eq_true_iff_forall_mem
abbrev z50:= @Go.bodyPost_ret
abbrev z51:= @List.mem_singleton
abbrev z52:= @decide_eq_false
abbrev z53:= @Go.World.ownsRow.alloc
abbrev z54:= @Nat.zero_le
abbrev z55:= @List.length_replicate
abbrev z56:= @List.length_cons
abbrev z57:= @Go.Calls.quiet_of_same
abbrev z58:= @Bool.and_eq_true
abbrev z59:= @Go.World.ownsRow.cellAt
abbrev z62:= @Go.wpList_append_own
abbrev z63:= @List.mem_map
abbrev z64:= @List.getD_cons_zero
abbrev z66:= @Go.World.block_lt_of_cell?
abbrev z67:= @decide_eq_true_eq
abbrev z69:= @List.getElem?_take
abbrev z70:= @List.getElem?_map
abbrev z72:= @List.mem_of_getElem?
abbrev z73:= @Int.eq_ofNat_of_zero_le
abbrev z75:= @Array.getElem?_eq_getElem
abbrev z76:= @List.getElem?_eq_none
abbrev z82:= @List.take_append_of_le_length
abbrev z83:= @List.getElem?_drop
abbrev z84:= @List.take_succ_eq_append_getElem
abbrev z85:= @Go.World.cell?_alloc_lt
abbrev z86:= @Go.Result.andThen_ok
abbrev z87:= @List.mem_range
abbrev z88:= @Bool.false_eq_true
abbrev z89:= @List.countP_le_length
abbrev z91:= @List.getD_cons_succ
abbrev z94:= @List.ext_getElem?
abbrev z105:= @List.map_toArray
abbrev z106:= @List.map_nil
abbrev z107:= @Go.Sem.run_bind
abbrev nS':= @List.all_eq_true
abbrev z117:= @if_false
abbrev rV':= @decide_eq_decide
abbrev yY':= @List.cons_append
abbrev rW':= @List.countP_cons
abbrev vt':= @beq_iff_eq
abbrev vu':= @Nat.add_zero
abbrev z126:= @Go.Sem.run_pure
abbrev tX':= @of_decide_eq_true
abbrev yZ':= @Bool.true_and
abbrev pi':= @Go.wpList_plain
abbrev rX':= @List.map_map
abbrev xH':= @List.mem_cons_of_mem
abbrev xI':= @List.getElem_map
abbrev xJ':= @List.countP_eq_zero
abbrev nT':= @Go.info_parts
abbrev tY':= @ByteArray.ext
abbrev za':= @List.countP_cons_of_pos
abbrev zb':= @Nat.mul_one
abbrev tZ':= @Nat.lt_or_ge
abbrev z180:= @ByteArray.data_append
abbrev vv':= @Go.wp_region_any
abbrev vw':= @List.mem_cons
abbrev xK':= @Nat.add_assoc
abbrev xL':= @List.nodup_cons
abbrev z197:= @Bool.or_eq_true
abbrev z199:= @List.range_succ
abbrev z204:= @Go.ByteArray.toList_eq
abbrev ua':= @Go.grownCap_ge
abbrev zc':= @List.mem_cons_self
abbrev rY':= @Go.mem_ready
abbrev zd':= @List.any_eq_true
abbrev ze':= @Nat.add_comm
abbrev vx':= @Array.ext'
theorem exq {z:Type} (a:z):∃x,x=a:=⟨a,rfl⟩
namespace Qb
def isNum (n:Int):Bool:=decide (0<=n) &&decide (n<=2147483647)
def isStr (n:Int):Bool:=decide (0<=n) &&decide (n < 3)
def Vn (s:Int) (c:UInt8):Int:=(s * 31+(c.toNat:Int)) % 4294967296
def sum (l:List UInt8):Int:=l.foldl Vn 7
theorem sumStep_range (s:Int) (c:UInt8):0<=Vn s c/\Vn s c < 4294967296:=by
 unfold Vn;omega
theorem foldl_range (l:List UInt8) (s:Int) (h:0<=s/\s < 4294967296):0<=l.foldl Vn s/\l.foldl Vn s < 4294967296:=by
 induction l generalizing s with
 |nil=>exact h
 |cons c l ih=>exact ih _ (sumStep_range s c)
theorem Ys (l:List UInt8):0<=sum l/\sum l < 4294967296:=foldl_range l 7 (by omega)
theorem sum_snoc (l:List UInt8) (c:UInt8):sum (l++[c])=Vn (sum l) c:=by simp[sum]
theorem sum_take (l:List UInt8) (k:Nat) (h:k < l.length):sum (l.take (k+1))=Vn (sum (l.take k)) (l.getD k 0):=by
 rw[z84 h,sum_snoc];simp[List.getD,h]
def Vv (c0 c1 c2 c3:UInt8):Int:=(c0.toNat:Int)+(c1.toNat:Int) * 256+(c2.toNat:Int) * 65536+(c3.toNat:Int) * 16777216
def Qg (l:List UInt8) (i:Nat):Int:=Vv (l.getD i 0) (l.getD (i+1) 0) (l.getD (i+2) 0) (l.getD (i+3) 0)
def le4 (n:Int):List UInt8:=[UInt8.ofNat (n.toNat % 256),UInt8.ofNat (n.toNat / 256 % 256),UInt8.ofNat (n.toNat / 65536 % 256),UInt8.ofNat (n.toNat / 16777216 % 256)]
theorem num4_range (c0 c1 c2 c3:UInt8):0<=Vv c0 c1 c2 c3/\Vv c0 c1 c2 c3 < 4294967296:=by
 have:=c0.toNat_lt;have:=c1.toNat_lt;have:=c2.toNat_lt;have:=c3.toNat_lt;unfold Vv;omega
theorem Jk (l:List UInt8) (i:Nat):0<=Qg l i/\Qg l i < 4294967296:=num4_range _ _ _ _
theorem Qw (n:Int):(le4 n).length=4:=rfl
def Xh (b:z10):Bool:=decide (b.size=12) && (decide (Qg b.data.toList 0<=2147483647) && (decide (Qg b.data.toList 4<=2147483647) &&decide (Qg b.data.toList 8<=2147483647)))
def Jj (b:z10):Bool:=decide (b.size=1) &&decide ((b.data.toList.getD 0 0).toNat<=7)
def proper (k e s q:Int) (b:z10):Bool:=
 isNum e&& (if k=1\/k=5 then decide (s=0) && (decide (q=0) &&decide (b.size=0))
 else if k=2 then decide (s=0) && (decide (q=0) &&Xh b)
 else if k=3 then isStr s&& (decide (q≠0) && (isNum q&&decide (b.size<=20)))
 else if k=4 then isStr s&& (isNum q&&Jj b)
 else false)
def front (k e s q:Int) (b:List UInt8):List UInt8:=
 [UInt8.ofNat (k.toNat % 256)]++le4 e++[UInt8.ofNat (s.toNat % 256)]++le4 q++[UInt8.ofNat (b.length % 256)]++b
def bytes (k e s q:Int) (b:List UInt8):List UInt8:=front k e s q b++le4 (sum (front k e s q b))
def whole (l:List UInt8):Bool:=
 decide (15<=l.length) && (decide (l.length=15+(l.getD 10 0).toNat) &&decide (Qg l (l.length - 4)=sum (l.take (l.length - 4))))
def Jr (l:List UInt8):Int:=(l.getD 0 0).toNat
def Jm (l:List UInt8):Int:=Qg l 1
def Qu (l:List UInt8):Int:=(l.getD 5 0).toNat
def Xt (l:List UInt8):Int:=Qg l 6
def Ju (l:List UInt8):z10:=⟨((l.take (l.length - 4)).drop 11).toArray⟩
def reads (l:List UInt8):Bool:=whole l&&proper (Jr l) (Jm l) (Qu l) (Xt l) (Ju l)
end Qb
end Go.Proofs.YtamafdcnbcoegaaGreat
namespace Go.Proofs.YtamafdcnbcoegaaGreat
open Go.RowKit Go.Proofs.Tryz
theorem m' {p:Prop} (h:p):Hid p:=h
theorem d' {p:Prop} (h:Hid p):p:=h
variable{bK cF:Bool}
theorem aR' (h:bK=cF):Ending.returned (.bool bK)=Ending.returned (.bool cF):=by rw[h]
variable{cQ:IntKind}{M X:Int}
theorem dB' (h:M=X):Ending.returned (.int cQ M)=Ending.returned (.int cQ X):=by rw[h]
variable{p:World}{cR:Addr}{c:Value}
theorem pj' (n:Nat) (h:p.cell? cR=some c):(p.drewN n).cell? cR=some c:=h
def bv (l:List UInt8):List Value:=l.map fun c=> .int .u8 c.toNat
theorem cP' (l m:List UInt8):bv (l++m)=bv l++bv m:=by simp[bv]
theorem Z' (l:List UInt8):(bv l).length=l.length:=by simp[bv]
variable{m:List UInt8}{w:Nat}
theorem eb' (h:w < m.length):(bv m)[w]? =some (.int .u8 (m.getD w 0).toNat):=by
 simp[bv,h]
theorem dg' (l:List UInt8):∀u∈bv l,u.oneCell'=true:=by
 intro u hu;simp only[bv,List.mem_map]at hu;obtain⟨c,_,rfl⟩:=hu;rfl
theorem vy' (h0:0<=M):bv (Qb.le4 M)=[.int .u8 (M % 256), .int .u8 (M / 256 % 256), .int .u8 (M / 65536 % 256), .int .u8 (M / 16777216 % 256)]:=by
 obtain⟨m,rfl⟩:=z73 h0;simp[bv,Qb.le4]
theorem eU' (h0:0<=M) (h1:M < 256):bv [UInt8.ofNat (M.toNat % 256)]=[.int .u8 M]:=by
 obtain⟨m,rfl⟩:=z73 h0;have:m % 256=m:=by omega
 simp[bv,this]
theorem vz' (s:z10):Lib.strCells s=bv s.data.toList:=rfl
theorem jf':(prog.info? 5).map (fun i=>(i.zero,i.size,i.bytes))=some (some (.int .u8 0),1,1):=by kernel_rfl
theorem aq' {w:World} {l:List Value} {e:TypeId}:∀j u,l[j]? =some u->(w.alloc (.cells l.toArray e)).cell? ((⟨w.heap.size,0,none⟩:Addr).add j)=some u:=by
 intro j u h;by_cases hj:j=0
 ·subst hj;simpa[Addr.add]using h
 ·simpa[Addr.add,hj]using h
def Qt (B:Nat) (w:World) (v:Value) (l:List UInt8):Prop:=w.ownsRow B 5 1 v l.length (bv l)
theorem Qt.alloc {B:Nat} {w:World} {v:Value} {l:List UInt8} (h:Qt B w v l) (o:Obj):Qt B (w.alloc o) v l:=z53 h o
theorem gY' (B:Nat) (w:World):Qt B w (.slice none 0 0) []:=z27 _ _ _ _
theorem Qt.mono {B B':Nat} {w:World} {v:Value} (h:Qt B w v m) (F:B'<=B):Qt B' w v m:=by
 obtain⟨h1,h2⟩:=h;refine⟨h1,?_⟩;rcases h2 with h2|⟨g,cap,z,e,hb,r⟩
 ·exact .inl h2
 ·exact .inr ⟨g,cap,z,e,by omega,r⟩
theorem Qt.below {B C:Nat} {w w':World} {v:Value} {l:List UInt8} (h:Qt B w v l) (hb:Below C w w') (z:∀g,v.ownBlock=some g->g < C):Qt B w' v l:=by
 obtain⟨h1,h2⟩:=h;refine⟨h1,?_⟩;rcases h2 with h2|⟨g,cap,F,e,G,H,r⟩
 ·exact .inl h2
 ·subst e;exact .inr ⟨g,cap,F,rfl,G,by rw[hb.block g (z g rfl)];exact H,r⟩
theorem Qt.lt {B:Nat} {w:World} {v:Value} {l:List UInt8} (h:Qt B w v l):∀g,v.ownBlock=some g->B<=g/\g < w.heap.size:=z15 h
theorem Qt.addr (h:Qt w p c m) (hl:0 < m.length):
  ∃g cap,c= .slice (some ⟨g,0,none⟩) m.length cap/\w<=g/\g < p.heap.size/\m.length<=cap/\cap<=maxLen/\∀i,i < m.length->p.cell? ⟨g,0+i,none⟩=some (.int .u8 (m.getD i 0).toNat):=by
 have h0:=h;obtain⟨h1,h2⟩:=h;rcases h2 with ⟨_,h2⟩|⟨g,cap,I,e,z,F,G,H,_,J⟩
 ·omega
 ·subst e;refine⟨g,cap,rfl,z,z14 F,G,H,fun i hi=>?_⟩;have:=z59 h0 i (by omega);rw[z44,this,eb' hi]
theorem Qt.shape {B:Nat} {w:World} {v:Value} {l:List UInt8} (h:Qt B w v l):∃z cap,v= .slice z l.length cap/\l.length<=cap:=by
 obtain⟨h1,h2⟩:=h;rcases h2 with ⟨e,h2⟩|⟨g,cap,G,e,H,I,F,J,_,M⟩
 ·exact⟨none,0,by rw[h2];exact e,by omega⟩
 ·exact⟨_,cap,e,F⟩
variable{cO:Option Nat}
theorem Y' {B:Nat} {w:World} (z:w.grownBy p cO) (F:B<=w.heap.size) (G:∀k,cO=some k->B<=k):Below B w p:=
 (z11 B w).grown z F G
variable{B:Array Oper}{N:Oper}{I:Act}{Z:Exit -> Act -> World -> Prop}
theorem gZ' {rest:List Oper} {w:World} (H:N.guard=none) (s x:Operand)
  (J:N.op= .call {callee:= .builtin .append,args:= #[s,x],argTypes:= #[44,44]}) (F:Nat) (v:Value) (l:List UInt8) (M:Qt F w v l) (hs:I.eval s=v)
  (G:Addr) (m c:Nat) (z:List UInt8) (O:I.eval x= .slice (some G) m c) (hl:z.length=m) (Q:∀j u,(bv z)[j]? =some u->w.cell? (G.add j)=some u)
  (ac:l.length+m<=140737488355328) (V:F<=w.heap.size)
  (h:∀v' w',Qt F w' v' (l++z)->w.grownBy w' v.ownBlock->wpList prog B Z rest (I.put N.dst v') w'):wpList prog B Z (N::rest) I w:=by
 obtain⟨i0,hi,Y,aa,ab⟩:=nT' jf';refine z62 (P:=prog) _ H s x 44 J F 5 i0 (.int .u8 0) 1 1 underlying44 hi Y aa ab rfl (by decide) v l.length (bv l) hs M G m c (bv z) O
  (by rw[Z',hl];omega) Q (dg' z) (by unfold maxLen;omega) (by omega) V ?_
 intro v' w' h1 h2 _;refine h v' w' ?_ h2;unfold Qt;rw[cP',z35,hl];exact h1
theorem fo' {rest:List Oper} (F:N.guard=none) (s x:Operand)
  (G:N.op= .call {callee:= .builtin .append,args:= #[s,x],argTypes:= #[44,44]}) (z:Nat) (v:Value) (l:List UInt8) (n:Int) (H:Qt z p v l) (hs:I.eval s=v)
  (J:I.eval x= .slice (some ⟨p.heap.size,0,none⟩) 1 1) (h0:0<=n) (h1:n < 256)
  (M:l.length+1<=140737488355328) (Q:z<=p.heap.size)
  (h:∀v' w',Qt z w' v' (l++[UInt8.ofNat (n.toNat % 256)])->p.grownBy w' v.ownBlock->wpList prog B Z rest (I.put N.dst v') w'):
  wpList prog B Z (N::rest) I (p.alloc (.cells #[.int .u8 n] 5)):=by
 refine gZ' (w:=p.alloc (.cells #[.int .u8 n] 5)) F s x G z v l (H.alloc _) hs ⟨p.heap.size,0,none⟩ 1 1 [UInt8.ofNat (n.toNat % 256)] J rfl
  (by rw[eU' h0 h1];exact aq') M (by simp;omega) ?_
 intro v' w' h2 h3;refine h v' w' h2 ⟨h3.os,h3.tape,h3.output,by have:=h3.size;simp at this;omega,fun k hk O=>?_⟩;rw[h3.block k (by simp;omega) O];exact z25 _ _ _ hk
theorem rZ' {rest:List Oper} (G:N.guard=none) (s x:Operand)
  (H:N.op= .call {callee:= .builtin .append,args:= #[s,x],argTypes:= #[44,9]}) (F:Nat) (v:Value) (l:List UInt8) (J:Qt F p v l) (hs:I.eval s=v)
  (z:z10) (M:I.eval x= .string z) (O:l.length+z.size<=140737488355328) (Q:F<=p.heap.size)
  (h:∀v' w',Qt F w' v' (l++z.data.toList)->p.grownBy w' v.ownBlock->wpList prog B Z rest (I.put N.dst v') w'):wpList prog B Z (N::rest) I p:=by
 obtain⟨i0,hi,V,Y,aa⟩:=nT' jf';obtain⟨v',w',ab,h1,h2,_⟩:=Lib.run_append_own_string (P:=prog) p F 44 9 N.type 5 i0 underlying44 underlying9 hi V Y aa v l.length (bv l) J z
  (by unfold maxLen;omega) O Q
 refine pi' G fun K ac=>?_;unfold Oper.wp execOp;simp only[H,resolve,invoke,builtin,Sem.run_bind,Sem.run_pure,Result.andThen_ok,List.map_toArray,List.map_cons,List.map_nil,hs,M,ab];refine ac _ _ (h v' w' ?_ h2);unfold Qt;rw[cP',z35,<-vz'];have:z.data.toList.length=z.size:=by simp
 rw[this];exact h1
theorem lX' {rest:List Oper} (G:N.guard=none) (l c:Operand)
  (H:N.op=Op.makeSlice 44 l c) (z:Nat) (kl F:IntKind) (C:Int) (n:Nat) (hl:I.eval l= .int kl 0) (J:I.eval c= .int F C) (M:C=(n:Int)) (aa:n<=140737488355328) (O:z<=p.heap.size)
  (h:∀w',Qt z w' (.slice (some ⟨p.heap.size,0,none⟩) 0 n) []->p.grownBy w' none->wpList prog B Z rest (I.put N.dst (.slice (some ⟨p.heap.size,0,none⟩) 0 n)) w'):
  wpList prog B Z (N::rest) I p:=by
 obtain⟨i0,hi,Q,V,Y⟩:=nT' jf';exact wpList_make_own (P:=prog) p G l c 44 H z 5 i0 (.int .u8 0) 1 underlying44 hi Q V kl F C n hl J M (by rw[Y];omega) (by unfold maxLen;omega) O h
variable{cS:Code}
theorem G' {P:Program} (R:World->Prop) (h:R p) (k:∀p,R p->cS.wp P Z I p):cS.wp P Z I p:=k p h
theorem ec' {w:World} {b off n cap:Nat} {l:List UInt8} (hl:l.length=n) (z:∀i,i < n->w.cell? ⟨b,off+i,none⟩=some (.int .u8 (l.getD i 0).toNat)):
  (convert 44 9 (.slice (some ⟨b,off,none⟩) n cap)).run prog w= .ok (.string ⟨l.toArray⟩) w:=by
 have h:=run_convert_bytes_arg (P:=prog) w 44 5 underlying44 underlying5 b off n cap (l.map fun c=>(c.toNat:Int)) (by simp[hl])
  (fun i hi=>by rw[z i hi];simp[List.getD_eq_getElem?_getD,List.getElem?_map];cases h:l[i]? <;> simp) 9 underlying9
 have e:strOfNums (l.map fun c=>(c.toNat:Int))=⟨l.toArray⟩:=by
  unfold strOfNums;rw[rX'];have:(fun n:Int=>UInt8.ofNat n.toNat) ∘ (fun c:UInt8=>(c.toNat:Int))=id:=by funext c;simp
  rw[this,List.map_id]
 rw[e]at h;exact h
theorem dh' (h0:0<=M):Qb.isNum M=decide (M<=2147483647):=by simp[Qb.isNum,h0]
theorem vA' (h0:M < 0):Qb.isNum M=false:=by simp[Qb.isNum];omega
theorem ub' (h0:0<=M):Qb.isStr M=decide (M < 3):=by simp[Qb.isStr,h0]
theorem vB' (h0:M < 0):Qb.isStr M=false:=by simp[Qb.isStr];omega
theorem aT' (n:Int) (w:World):
  Calls prog 140 #[.int .i64 n] w fun e w'=>e= .returned (.bool (Qb.isNum n))/\w'=w:=by
 by_cases h:n < 0;all_goals
  go_enter func140,ntmps140;go_wp2;go_ret
 ·exact⟨aR' (vA' h).symm,rfl⟩
 ·exact⟨aR' (dh' (by omega)).symm,rfl⟩
theorem bC' (n:Int) (w:World):
  Calls prog 87 #[.int .i64 n] w fun e w'=>e= .returned (.bool (Qb.isStr n))/\w'=w:=by
 by_cases h:n < 0;all_goals
  go_enter func87,ntmps87;go_wp2;go_ret
 ·exact⟨aR' (vB' h).symm,rfl⟩
 ·exact⟨aR' (ub' (by omega)).symm,rfl⟩
variable{o:z10}
theorem jg' (h:(o.size:Int)=1) (z:0 < o.size):Qb.Jj o=decide ((o[0].toNat:Int)<=7):=by
 have h1:o.size=1:=by omega
 have h2:o.data.toList.getD 0 0=o[0]:=by
  have:(0:Nat) < o.data.toList.length:=by simpa using z
  rw[z17,z18 this];rfl
 rw[Qb.Jj,h2,z47 h1,yZ'];by_cases h3:o[0].toNat<=7
 ·rw[z47 h3,z47 (by omega)]
 ·rw[z52 h3,z52 (by omega)]
theorem kl' (h:¬ (o.size:Int)=1):Qb.Jj o=false:=by
 have h1:¬o.size=1:=by omega
 simp[Qb.Jj,h1]
theorem lY' (s:z10) (w:World):
  Calls prog 142 #[.string s] w fun e w'=>e= .returned (.bool (Qb.Jj s))/\w'=w:=by
 by_cases h:(s.size:Int)=1
 ·have z:0 < s.size:=by omega
  go_enter func142,ntmps142;go_wp2;go_ret;exact⟨aR' (jg' h z).symm,rfl⟩
 ·go_enter func142,ntmps142;go_wp2;go_ret;exact⟨aR' (kl' h).symm,rfl⟩
theorem or4 (c0 c1 c2 c3:UInt8):
  bits BinOp.or IntKind.u32 (bits BinOp.or IntKind.u32 (bits BinOp.or IntKind.u32 ((c0.toNat:Int) % 4294967296) ((c1.toNat:Int) % 4294967296 * 256 % 4294967296))
   ((c2.toNat:Int) % 4294967296 * 65536 % 4294967296)) ((c3.toNat:Int) % 4294967296 * 16777216 % 4294967296)=Qb.Vv c0 c1 c2 c3:=by
 have h0:=c0.toNat_lt;have h1:=c1.toNat_lt;have h2:=c2.toNat_lt;have h3:=c3.toNat_lt;have z:(c0.toNat:Int) % 4294967296=c0.toNat:=by omega
 have F:(c1.toNat:Int) % 4294967296 * 256 % 4294967296=c1.toNat * 256:=by omega
 have G:(c2.toNat:Int) % 4294967296 * 65536 % 4294967296=c2.toNat * 65536:=by omega
 have H:(c3.toNat:Int) % 4294967296 * 16777216 % 4294967296=c3.toNat * 16777216:=by omega
 rw[z,F,G,H,u32_or8 (c0.toNat:Int) ((c1.toNat:Int) * 256) (by omega) (by omega) (by omega) (by omega) (by omega),
  u32_or16 ((c0.toNat:Int)+(c1.toNat:Int) * 256) ((c2.toNat:Int) * 65536) (by omega) (by omega) (by omega) (by omega) (by omega),
  u32_or24 ((c0.toNat:Int)+(c1.toNat:Int) * 256+(c2.toNat:Int) * 65536) ((c3.toNat:Int) * 16777216) (by omega) (by omega) (by omega) (by omega) (by omega)]
 unfold Qb.Vv;omega
theorem dL' (b off len cap:Nat) (c0 c1 c2 c3:UInt8) (w:World) (hl:4<=len)
  (h0:w.cell? ⟨b,off,none⟩=some (.int .u8 c0.toNat)) (h1:w.cell? ⟨b,off+1,none⟩=some (.int .u8 c1.toNat))
  (h2:w.cell? ⟨b,off+2,none⟩=some (.int .u8 c2.toNat)) (h3:w.cell? ⟨b,off+3,none⟩=some (.int .u8 c3.toNat)):
  Calls prog 95 #[.slice (some ⟨b,off,none⟩) len cap] w fun e w'=>e= .returned (.int .u32 (Qb.Vv c0 c1 c2 c3))/\∃n,w'=w.drewN n:=by
 go_enter func95,ntmps95;go_wp2;go_quiet (fail);go_wp2;go_ret;exact⟨dB' (or4 _ _ _ _),_,rfl⟩
theorem lZ' (s:z10) (w:World) (h0:0 < s.size) (h1:1 < s.size) (h2:2 < s.size) (h3:3 < s.size):
  Calls prog 199 #[.string s] w fun e w'=>e= .returned (.int .u32 (Qb.Vv s[0] s[1] s[2] s[3]))/\∃n,w'=w.drewN n:=by
 have i0:(0:Int) < (s.size:Int):=by omega
 have z:(1:Int) < (s.size:Int):=by omega
 have F:(2:Int) < (s.size:Int):=by omega
 have i3:(3:Int) < (s.size:Int):=by omega
 go_enter func199,ntmps199;go_wp2;go_quiet (fail);go_wp2;go_ret;exact⟨dB' (or4 _ _ _ _),_,rfl⟩
variable{a:Nat}
theorem vC' (z:m.length=a) (hk:w<=a) (h:¬w < a):m.take w=m:=z46 (by omega)
theorem uc' (hk:w < m.length):
  (Qb.sum (m.take w) * 31 % 4294967296+(m[w].toNat:Int) % 4294967296) % 4294967296=Qb.sum (m.take (w+1)):=by
 rw[Qb.sum_take m w hk,Qb.Vn,z17,z18 hk];simp
theorem nb' (b off len cap:Nat) (l:List UInt8) (w:World) (z:l.length=len) (F:len<=maxLen)
  (G:∀i,i < len->w.cell? ⟨b,off+i,none⟩=some (.int .u8 (l.getD i 0).toNat)):
  Calls prog 136 #[.slice (some ⟨b,off,none⟩) len cap] w fun e w'=>e= .returned (.int .u32 (Qb.sum l))/\w'=w:=by
 unfold maxLen at F;go_enter func136,ntmps136;go_wp2;go_loop [3,8] (fun s i=>∃k:Nat,k<=len/\i= .int .i64 k/\s= .int .u32 (Qb.sum (l.take k))) (fun _ i=>len - (intOf i).toNat)
 case atStart=>exact⟨0,z54 _,rfl,rfl⟩
 case round=>
  obtain⟨k,hk,rfl,rfl⟩:=hrel;have J:k < len->w.cell? ⟨b,off+k,none⟩=some (.int .u8 (l.getD k 0).toNat):=fun _=>G k (by omega);by_cases H:k < len
  ·go_wp2;go_round
   case rel=>exact⟨k+1,by omega,by go_num,congrArg (Value.int .u32) (uc' (by omega))⟩
   case measure=>simp[intOf];omega
  ·have I:Hid (l.take k=l):=vC' z hk H;go_wp2;go_ret;exact⟨congrArg (fun l=>Ending.returned (.int .u32 (Qb.sum l))) I.out,rfl⟩
theorem sa' (x:z10) (h:4<=x.size):Qb.Vv (x[0]'(by omega)) (x[1]'(by omega)) (x[2]'(by omega)) (x[3]'(by omega))=Qb.Qg x.data.toList 0:=by
 have g:∀i (hi:i < x.size),x.data.toList.getD i 0=x[i]:=by
  intro i hi;have hl:i < x.data.toList.length:=by simpa using hi
  rw[z17,z18 hl];rfl
 unfold Qb.Qg;rw[g 0 (by omega),g (0+1) (by omega),g (0+2) (by omega),g (0+3) (by omega)]
theorem ma' (s:z10) (a:Nat) (h:a+4<=s.size):Qb.Qg (s.extract a s.size).data.toList 0=Qb.Qg s.data.toList a:=by
 have g:∀i,i < 4->(s.extract a s.size).data.toList.getD i 0=s.data.toList.getD (a+i) 0:=by intro i hi;have z:s.data.size=s.size:=rfl;simp only[ByteArray.data_extract,Array.toList_extract,List.getD_eq_getElem?_getD,List.extract_eq_take_drop,List.getElem?_take,List.getElem?_drop];rw[if_pos (by omega)]
 unfold Qb.Qg;rw[g 0 (by omega),g (0+1) (by omega),g (0+2) (by omega),g (0+3) (by omega)];simp only[Nat.zero_add,Nat.add_zero]
theorem km' (x:z10) (w:World) (h:4<=x.size):
  Calls prog 199 #[.string x] w fun e w'=>e= .returned (.int .u32 (Qb.Qg x.data.toList 0))/\∃n,w'=w.drewN n:=by
 have:=lZ' x w (by omega) (by omega) (by omega) (by omega);rw[sa' x h]at this;exact this
def pk' (s:z10) (k:Nat):Prop:=∀j,j < k->Qb.Qg s.data.toList (4 * j)<=2147483647
theorem ud' (s:z10):pk' s 0:=fun _ h=>absurd h (by omega)
theorem ue' {s:z10} {k:Nat} (h:pk' s k) (z:Qb.Qg s.data.toList (4 * k)<=2147483647):pk' s (k+1):=fun j hj=>by
 by_cases e:j=k
 ·rw[e];exact z
 ·exact h j (by omega)
theorem sb' {s:z10} (hk:w < 3) (z:2147483647 < Qb.Qg s.data.toList (4 * w)):Qb.Xh s=false:=by
 have:w=0\/w=1\/w=2:=by omega
 unfold Qb.Xh;rcases this with rfl|rfl|rfl <;> simp at z ⊢ <;> omega
theorem pm' (h:(o.size:Int)=12) (z:pk' o 3):Qb.Xh o=true:=by
 have a0:=z 0 (by omega);have a1:=z 1 (by omega);have a2:=z 2 (by omega);simp at a0 a1 a2;unfold Qb.Xh;simp[a0,a1,a2];omega
theorem pn' (a:Array Obj) (o:Obj) (f:Obj->Obj):(a.push o).modify a.size f=a.push (f o):=by
 apply Array.ext
 ·simp
 ·intro j h1 h2;simp only[Array.getElem_modify,Array.getElem_push];simp at h1;by_cases hj:a.size=j
  ·subst hj;simp
  ·have:j < a.size:=(by omega);simp[hj,this]
theorem kn' {w:World} {C:Array Value} {T:TypeId} {b:Nat} (i:Nat) (v:Value) (n:Nat) (hb:b=w.heap.size):((w.alloc (.cells C T)).drewN n).setCell ⟨b,i,none⟩ v=(w.alloc (.cells (C.setIfInBounds i v) T)).drewN n:=by
 subst hb;unfold World.setCell World.alloc World.drewN;simp only[pn'];rfl
def zf' (n0 n1 n2:Int):Nat->Array Value
 |0=> #[.int .i64 0, .int .i64 0, .int .i64 0]
 |1=> #[.int .i64 n0, .int .i64 0, .int .i64 0]
 |2=> #[.int .i64 n0, .int .i64 n1, .int .i64 0]
 | _=> #[.int .i64 n0, .int .i64 n1, .int .i64 n2]
theorem bX' (l:List UInt8) (i:Nat):0<=Qb.Qg l i/\Qb.Qg l i < 4294967296:=by
 unfold Qb.Qg Qb.Vv;have h0:=(l.getD i 0).toNat_lt;have h1:=(l.getD (i+1) 0).toNat_lt;have h2:=(l.getD (i+2) 0).toNat_lt;have h3:=(l.getD (i+3) 0).toNat_lt;omega
theorem gu' (s:z10) (w:World) (h:s.size=12):
  Calls prog 151 #[.string s] w fun e w'=>e= .returned (.agg #[.int .i64 (Qb.Qg s.data.toList 0), .int .i64 (Qb.Qg s.data.toList 4), .int .i64 (Qb.Qg s.data.toList 8)])/\Below w.heap.size w w':=by
 have g:∀k,0 < k->k < 3->∀w,Calls prog 199 #[.string (s.extract (4 * k) s.size)] w fun e w'=>e= .returned (.int .u32 (Qb.Qg s.data.toList (4 * k)))/\∃n,w'=w.drewN n:=by
  intro k _ hk w;have H:=ma' s (4 * k) (by omega);have I:(s.extract (4 * k) s.size).size=s.size - 4 * k:=by simp
  rw[<-H];exact km' _ w (by omega)
 have g0:=m' (fun w=>km' s w (by omega));have g1:=m' (g 1 (by omega) (by omega));have g2:=m' (g 2 (by omega) (by omega));clear g;have i4:(4:Int)<=(s.size:Int):=by omega
 have J:(8:Int)<=(s.size:Int):=by omega
 have M:4<=s.size:=by omega
 have O:8<=s.size:=by omega
 clear h;simp only[Nat.mul_one,Nat.reduceMul]at g0 g1 g2;have F:=bX' s.data.toList 0;have G:=bX' s.data.toList 4;have b2:=bX' s.data.toList 8;generalize Qb.Qg s.data.toList 0=n0 at g0 F ⊢;generalize Qb.Qg s.data.toList 4=n1 at g1 G ⊢;generalize Qb.Qg s.data.toList 8=n2 at g2 b2 ⊢;obtain⟨Q,V⟩:=F;obtain⟨Y,Z⟩:=G;obtain⟨aa,ab⟩:=b2;go_enter func151,ntmps151;go_wp2;go_loopw[5] (fun i wr=>∃k:Nat,k<=3/\i= .int .i64 k/\∃n,wr=((w.alloc (.cells (zf' n0 n1 n2 0) 98)).alloc (.cells (zf' n0 n1 n2 k) 98)).drewN n) (fun i _=>3 - (intOf i).toNat)
 case atStart=>exact⟨0,by omega,rfl,0,rfl⟩
 case round=>
  obtain⟨k,hk,rfl,n,rfl⟩:=hrel;obtain rfl|rfl|rfl|rfl:k=0\/k=1\/k=2\/k=3:=by omega
  all_goals simp only[zf']
  ·go_wp2_with (go_at_call 199;refine((d' g0) _).mono ?_;rintro e w' ⟨rfl,z,rfl⟩)
   go_roundw
   case rel=>exact⟨1,by omega,rfl,n+z,kn' (w:=w.alloc _) 0 (.int .i64 n0) (n+z) (by simp)⟩
   case measure=>simp[intOf]
  ·go_wp2_with (go_at_call 199;refine((d' g1) _).mono ?_;rintro e w' ⟨rfl,z,rfl⟩)
   go_roundw
   case rel=>exact⟨2,by omega,rfl,n+z,kn' (w:=w.alloc _) 1 (.int .i64 n1) (n+z) (by simp)⟩
   case measure=>simp[intOf]
  ·go_wp2_with (go_at_call 199;refine((d' g2) _).mono ?_;rintro e w' ⟨rfl,z,rfl⟩)
   go_roundw
   case rel=>exact⟨3,by omega,rfl,n+z,kn' (w:=w.alloc _) 2 (.int .i64 n2) (n+z) (by simp)⟩
   case measure=>simp[intOf]
  ·go_wp2;exact z50 (v:= .agg #[.int .i64 n0, .int .i64 n1, .int .i64 n2]) (by simp[results,results151,go_sem]) rfl ⟨rfl,(((z41 (((z11 _ _).alloc (z13 _) _).alloc (by simp) _) _).setCell (z13 _) _).setCell (z13 _) _).setCell (z13 _) _⟩
theorem ha' (s:z10) (w:World):
  Calls prog 141 #[.string s] w fun e w'=>e= .returned (.bool (Qb.Xh s))/\Below w.heap.size w w':=by
 by_cases h:(s.size:Int)=12
 ·have G:=m' (gu' s w (by omega));have I:=bX' s.data.toList 0;have J:=bX' s.data.toList 4;have b2:=bX' s.data.toList 8;have F:Hid (Qb.Xh s=(decide (Qb.Qg s.data.toList 0<=2147483647) && (decide (Qb.Qg s.data.toList 4<=2147483647) &&decide (Qb.Qg s.data.toList 8<=2147483647)))):=by have:s.size=12:=(by omega);show _= _;simp[Qb.Xh,this]
  generalize Qb.Qg s.data.toList 0=n0 at G I F;generalize Qb.Qg s.data.toList 4=n1 at G J F;generalize Qb.Qg s.data.toList 8=n2 at G b2 F;obtain⟨M,Y⟩:=I;obtain⟨O,Z⟩:=J;obtain⟨Q,aa⟩:=b2;have i0:∀w:World,(Instr.index 98 (.agg #[.int .i64 n0, .int .i64 n1, .int .i64 n2]) (.int .i64 0)).run prog w= .ok (.int .i64 n0) w:=fun _=>by kernel_rfl
  have ab:∀w:World,(Instr.index 98 (.agg #[.int .i64 n0, .int .i64 n1, .int .i64 n2]) (.int .i64 1)).run prog w= .ok (.int .i64 n1) w:=fun _=>by kernel_rfl
  have ac:∀w:World,(Instr.index 98 (.agg #[.int .i64 n0, .int .i64 n1, .int .i64 n2]) (.int .i64 2)).run prog w= .ok (.int .i64 n2) w:=fun _=>by kernel_rfl
  go_enter func141,ntmps141;go_upto_region 4 with (go_at_call 151;refine(d' G).mono ?_;rintro e w1 ⟨rfl,V⟩;have H:=m' V;clear V);clear h;go_loop [10] (fun i=>∃k:Nat,k<=3/\i= .int .i64 k/\(0 < k->n0<=2147483647)/\(1 < k->n1<=2147483647)/\(2 < k->n2<=2147483647)) (fun i=>3 - (intOf i).toNat)
  case atStart=>exact⟨0,by omega,rfl,by omega,by omega,by omega⟩
  case round=>
   obtain⟨k,hk,rfl,k0,k1,k2⟩:=hrel;obtain rfl|rfl|rfl|rfl:k=0\/k=1\/k=2\/k=3:=by omega
   ·by_cases z:n0<=2147483647
    ·go_wp2_with (go_at_call 140;refine(aT' _ _).mono ?_;rw[dh' M,z47 z];rintro e w' ⟨rfl,rfl⟩)
     go_round
     case rel=>exact⟨1,by omega,rfl,by omega,by omega,by omega⟩
     case measure=>simp[intOf]
    ·go_wp2_with (go_at_call 140;refine(aT' _ _).mono ?_;rw[dh' M,z52 z];rintro e w' ⟨rfl,rfl⟩)
     go_ret;exact⟨aR' (by rw[d' F,z52 (Int.not_le.mpr (show 2147483647 < n0 by assumption))];rfl),d' H⟩
   ·by_cases z:n1<=2147483647
    ·go_wp2_with (go_at_call 140;refine(aT' _ _).mono ?_;rw[dh' O,z47 z];rintro e w' ⟨rfl,rfl⟩)
     go_round
     case rel=>exact⟨2,by omega,rfl,by omega,by omega,by omega⟩
     case measure=>simp[intOf]
    ·go_wp2_with (go_at_call 140;refine(aT' _ _).mono ?_;rw[dh' O,z52 z];rintro e w' ⟨rfl,rfl⟩)
     go_ret;exact⟨aR' (by rw[d' F,z52 (Int.not_le.mpr (show 2147483647 < n1 by assumption))];simp),d' H⟩
   ·by_cases z:n2<=2147483647
    ·go_wp2_with (go_at_call 140;refine(aT' _ _).mono ?_;rw[dh' Q,z47 z];rintro e w' ⟨rfl,rfl⟩)
     go_round
     case rel=>exact⟨3,by omega,rfl,by omega,by omega,by omega⟩
     case measure=>simp[intOf]
    ·go_wp2_with (go_at_call 140;refine(aT' _ _).mono ?_;rw[dh' Q,z52 z];rintro e w' ⟨rfl,rfl⟩)
     go_ret;exact⟨aR' (by rw[d' F,z52 (Int.not_le.mpr (show 2147483647 < n2 by assumption))];simp),d' H⟩
   ·go_wp2;go_ret;exact⟨aR' (by rw[d' F,z47 (k0 (by omega)),z47 (k1 (by omega)),z47 (k2 (by omega))];rfl),d' H⟩
 ·go_enter func141,ntmps141;go_wp2;go_ret;exact⟨aR' (by simp[Qb.Xh];omega),z11 _ _⟩
variable{aI aM:Int}
theorem one4:∀u∈ [Value.int cQ M, .int cQ X, .int cQ aI, .int cQ aM],u.oneCell'=true:=by
 intro u hu;simp at hu;rcases hu with rfl|rfl|rfl|rfl <;> rfl
variable{u:World}{aQ:Obj}
theorem hf' (h:(p.alloc aQ).grownBy u cO):p.grownBy u cO:=by
 refine⟨h.os,h.tape,h.output,by have:=h.size;simp at this;omega,fun k hk z=>?_⟩;rw[h.block k (by simp;omega) z];exact z25 _ _ _ hk
theorem aE' (B:Nat) (n:Int) (v:Value) (l:List UInt8) (w:World) (hl:l.length<=1000) (Y:B<=w.heap.size) (G:0<=n)
  (z:Qt B w v l):
  Calls prog 135 #[v, .int .u32 n] w fun e w'=>∃v',e= .returned v'/\Qt B w' v' (l++Qb.le4 n)/\w.grownBy w' v.ownBlock:=by
 have F:=vy' G;obtain⟨i0,hi,H,I,J⟩:=nT' jf';have M:=m' z;have O:=m' F;clear F z;go_enter func135,ntmps135;go_wp2_with (at_builtin;refine z62 _ rfl _ _ 44 rfl B 5 i0 (.int .u8 0) 1 1 underlying44 hi H I J rfl (by decide) v l.length (bv l) rfl ((d' M).alloc _) ⟨w.heap.size,0,none⟩ 4 4 [.int .u8 (n % 256), .int .u8 (n / 256 % 256), .int .u8 (n / 65536 % 256), .int .u8 (n / 16777216 % 256)] rfl rfl aq' one4 ?c3 ?c4 ?c5 ?_)
 case c3=>unfold maxLen;omega
 case c4=>omega
 case c5=>simp;omega
 intro v' w1 Q V _;go_wp2;go_ret;refine⟨v',rfl,?_,?_⟩
 ·unfold Qt;rw[cP',d' O];simpa[Qb.Qw]using Q
 ·exact hf' V
theorem nU' (b:z10):b.toList.isEmpty=decide (b.size=0):=by
 rcases Nat.eq_zero_or_pos b.size with h|h
 ·have:b=ByteArray.empty:=by apply tY';apply Array.eq_empty_of_size_eq_zero;exact h
  subst this;simp[ByteArray.toList_eq]
 ·have hn:b.toList≠ []:=by
   intro e;have h1:b.toList.length=b.size:=by simp[ByteArray.toList_eq]
   rw[e]at h1;simp at h1;omega
  rw[z52 (by omega)];cases hl:b.toList with
  |nil=>exact absurd hl hn
  |cons _ _=>rfl
theorem uf' (k e s q:Int) (b:z10) (w:World) (H:Qb.isNum e=true) (z:k=1\/k=5):
  Calls prog 96 #[.agg #[.int .i64 k, .int .i64 e, .int .i64 s, .int .i64 q, .string b]] w fun r w'=>r= .returned (.bool (Qb.proper k e s q b))/\Below w.heap.size w w':=by
 have hk:(k==1)=true\/((k==1)=false/\(k==5)=true):=by rcases z with rfl|rfl <;> simp
 have F:Hid (Qb.proper k e s q b=(decide (s=0) && (decide (q=0) &&decide (b.size=0)))):=by show _= _;simp[Qb.proper,H,z]
 have G:Hid (b.toList.isEmpty=decide (b.size=0)):=nU' b;clear z;rcases hk with hk|⟨hk,I⟩;all_goals
  go_enter func96,ntmps96;go_wp2_with (go_at_call 140;refine(aT' _ _).mono ?_;rintro r w' ⟨rfl,rfl⟩);all_goals
   go_ret;refine⟨aR' ?_,(z11 _ _).alloc (z13 _) _⟩;have F:=d' F;have G:=d' G;simp_all
theorem ug' (k e s q:Int) (b:z10) (w:World) (F:Qb.isNum e=true) (h2:k=2):
  Calls prog 96 #[.agg #[.int .i64 k, .int .i64 e, .int .i64 s, .int .i64 q, .string b]] w fun r w'=>r= .returned (.bool (Qb.proper k e s q b))/\Below w.heap.size w w':=by
 subst h2;have z:Hid (Qb.proper 2 e s q b=(decide (s=0) && (decide (q=0) &&Qb.Xh b))):=by show _= _;simp[Qb.proper,F]
 go_enter func96,ntmps96;go_wp2_with (first|(go_at_call 140;refine(aT' _ _).mono ?_;rintro r w' ⟨rfl,rfl⟩)|(go_at_call 141;refine(ha' _ _).mono ?_;rintro r w' ⟨rfl,G⟩));all_goals
  go_ret;refine⟨aR' ?_,by first|exact(z11 _ _).alloc (z13 _) _|exact((z11 _ _).alloc (z13 _) _).trans (G.mono (by simp))⟩;have z:=d' z;simp_all
theorem uh' (k e s q:Int) (b:z10) (w:World) (G:Qb.isNum e=true) (h3:k=3):
  Calls prog 96 #[.agg #[.int .i64 k, .int .i64 e, .int .i64 s, .int .i64 q, .string b]] w fun r w'=>r= .returned (.bool (Qb.proper k e s q b))/\Below w.heap.size w w':=by
 subst h3;have z:Hid (Qb.proper 3 e s q b=(Qb.isStr s&& (decide (q≠0) && (Qb.isNum q&&decide (b.size<=20))))):=by show _= _;simp[Qb.proper,G]
 cases hs:Qb.isStr s;all_goals
  cases H:Qb.isNum q;all_goals
   go_enter func96,ntmps96;go_wp2_with (first|(go_at_call 140;refine(aT' _ _).mono ?_;rintro r w' ⟨rfl,rfl⟩)|(go_at_call 87;refine(bC' _ _).mono ?_;rintro r w' ⟨rfl,rfl⟩));all_goals
    go_ret;refine⟨aR' ?_,(z11 _ _).alloc (z13 _) _⟩;have z:=d' z;have hd:decide ((b.size:Int)<=20)=decide (b.size<=20):=by rw[rV'];omega
    have F:(q !=0)=decide (q≠0):=(by by_cases h:q=0 <;> simp[h]);try simp only[hd,F]
    clear hd F;simp_all
theorem ui' (k e s q:Int) (b:z10) (w:World) (F:Qb.isNum e=true) (h4:k=4):
  Calls prog 96 #[.agg #[.int .i64 k, .int .i64 e, .int .i64 s, .int .i64 q, .string b]] w fun r w'=>r= .returned (.bool (Qb.proper k e s q b))/\Below w.heap.size w w':=by
 subst h4;have z:Hid (Qb.proper 4 e s q b=(Qb.isStr s&& (Qb.isNum q&&Qb.Jj b))):=by show _= _;simp[Qb.proper,F]
 cases hs:Qb.isStr s;all_goals
  cases G:Qb.isNum q;all_goals
   go_enter func96,ntmps96;go_wp2_with (first|(go_at_call 140;refine(aT' _ _).mono ?_;rintro r w' ⟨rfl,rfl⟩)|(go_at_call 87;refine(bC' _ _).mono ?_;rintro r w' ⟨rfl,rfl⟩)|(go_at_call 142;refine(lY' _ _).mono ?_;rintro r w' ⟨rfl,rfl⟩));all_goals
    go_ret;refine⟨aR' ?_,(z11 _ _).alloc (z13 _) _⟩;have z:=d' z;simp_all
theorem po' (k e s q:Int) (b:z10) (w:World):
  Calls prog 96 #[.agg #[.int .i64 k, .int .i64 e, .int .i64 s, .int .i64 q, .string b]] w fun r w'=>r= .returned (.bool (Qb.proper k e s q b))/\Below w.heap.size w w':=by
 cases z:Qb.isNum e
 ·go_enter func96,ntmps96;go_wp2_with (go_at_call 140;refine(aT' _ _).mono ?_;rintro r w' ⟨rfl,rfl⟩);go_ret;exact⟨aR' (by simp[Qb.proper,z]),(z11 _ _).alloc (z13 _) _⟩
 by_cases F:k=1\/k=5
 ·exact uf' k e s q b w z F
 by_cases h2:k=2
 ·exact ug' k e s q b w z h2
 by_cases h3:k=3
 ·exact uh' k e s q b w z h3
 by_cases h4:k=4
 ·exact ui' k e s q b w z h4
 have G:Hid (Qb.proper k e s q b=false):=by show _= _;simp[Qb.proper,F,h2,h3,h4]
 have H:(k==1)=false:=by simp;omega
 have b2:(k==2)=false:=by simp;omega
 have b3:(k==3)=false:=by simp;omega
 have I:(k==4)=false:=by simp;omega
 have J:(k==5)=false:=by simp;omega
 clear F h2 h3 h4;go_enter func96,ntmps96;go_wp2_with (go_at_call 140;refine(aT' _ _).mono ?_;rintro r w' ⟨rfl,rfl⟩);go_ret;exact⟨aR' (d' G).symm,(z11 _ _).alloc (z13 _) _⟩
end Go.Proofs.YtamafdcnbcoegaaGreat
namespace Go.Proofs.YtamafdcnbcoegaaGreat
open Go.RowKit Go.Proofs.Tryz
open Qb (whole)
theorem mc' (z:Option Addr) (len cap:Nat) (w:World) (h:(len:Int) < 15):
  Calls prog 94 #[.slice z len cap] w fun r w'=>r= .returned (.bool false)/\w'=w:=by
 go_enter func94,ntmps94;go_wp2;go_ret;exact⟨rfl,rfl⟩
variable{m:List UInt8}{w a:Nat}
theorem vD' (F:m.length=w+4) (z:(m.getD 10 0).toNat=a) (h:¬w+4=15+a):whole m=false:=by
 unfold whole;rw[z,z52 (p:=m.length=15+a) (by omega)];simp
theorem uj' (F:m.length=w+4) (_:11<=w) (z:(m.getD 10 0).toNat=a) (h:w+4=15+a):
  whole m=(Qb.Vv (m.getD w 0) (m.getD (w+1) 0) (m.getD (w+2) 0) (m.getD (w+3) 0) ==Qb.sum (m.take w)):=by
 unfold whole;have e:m.length - 4=w:=by omega
 rw[z,e,z47 (p:=15<=m.length) (by omega),z47 (p:=m.length=15+a) (by omega),yZ',yZ'];by_cases hs:Qb.Qg m w=Qb.sum (m.take w)
 ·rw[z47 hs];exact(vt'.2 hs).symm
 ·rw[z52 hs];exact(beq_eq_false_iff_ne.2 hs).symm
theorem hi' (b off m cap:Nat) (l:List UInt8) (w:World) (F:l.length=m+4) (I:m+4<=maxLen) (Z:m+4<=cap) (J:11<=m)
  (z:∀i,i < m+4->w.cell? ⟨b,off+i,none⟩=some (.int .u8 (l.getD i 0).toNat)):
  Calls prog 94 #[.slice (some ⟨b,off,none⟩) (m+4) cap] w fun r w'=>r= .returned (.bool (whole l))/\∃n,w'=w.drewN n:=by
 have M:=z 10 (by omega);have O:=(l.getD 10 0).toNat_lt;have Q:=I;unfold maxLen at I;generalize G:(l.getD 10 0).toNat=g at M O;have h1:(15:Int)<=(m:Int)+4:=by omega
 by_cases h:m+4=15+g
 ·have h2:((m:Int)+4!=11+(g:Int)+4)=false:=by simp;omega
  have H:=m' (uj' F J G h);have V:=fun n=>m' (dL' b (off+m) 4 (cap - m) (l.getD m 0) (l.getD (m+1) 0) (l.getD (m+2) 0) (l.getD (m+3) 0) (w.drewN n) (z13 _)
   (pj' n (z m (by omega))) (pj' n (z (m+1) (by omega))) (pj' n (z (m+2) (by omega))) (pj' n (z (m+3) (by omega))))
  have Y:=fun n=>m' (nb' b off m cap (l.take m) (w.drewN n) (by simp;omega) (by omega) (fun i hi=>by rw[pj' n (z i (by omega)),z17,z17,z69,if_pos hi]));clear h G z F Q;generalize l.take m=lt at *;go_enter func94,ntmps94;go_wp2_with fail;go_quiet (first|(go_at_call 95;exact Calls.quiet_of (d' (V _)))|(go_at_call 136;exact z57 (d' (Y _))));go_wp2;go_ret;exact⟨aR' (d' H).symm,_,rfl⟩
 ·have h2:((m:Int)+4!=11+(g:Int)+4)=true:=by simp;omega
  have H:=m' (vD' F G h);clear h G z F;go_enter func94,ntmps94;go_wp2_with fail;go_ret;exact⟨aR' (d' H).symm,0,rfl⟩
end Go.Proofs.YtamafdcnbcoegaaGreat
namespace Go.Proofs.YtamafdcnbcoegaaGreat
open Go.RowKit Go.Proofs.Tryz
structure Xx (w:World) (b:Nat) (k e s q:Int) (body:z10):Prop where
 c0:w.cell? ⟨b,0,none⟩=some (.int .i64 k)
 c1:w.cell? ⟨b,1,none⟩=some (.int .i64 e)
 c2:w.cell? ⟨b,2,none⟩=some (.int .i64 s)
 c3:w.cell? ⟨b,3,none⟩=some (.int .i64 q)
 c4:w.cell? ⟨b,4,none⟩=some (.string body)
theorem dX' (w:World) (k e s q:Int) (body:z10) (t:TypeId):Xx (w.alloc (.cells #[.int .i64 k, .int .i64 e, .int .i64 s, .int .i64 q, .string body] t)) w.heap.size k e s q body:=by
 constructor <;> simp
theorem Xx.below {w w':World} {b C:Nat} {k e s q:Int} {body:z10} (h:Xx w b k e s q body) (hb:Below C w w') (z:b < C):Xx w' b k e s q body:=
 ⟨(hb.cell (p:=⟨b,0,none⟩) z).trans h.c0,(hb.cell (p:=⟨b,1,none⟩) z).trans h.c1,(hb.cell (p:=⟨b,2,none⟩) z).trans h.c2,(hb.cell (p:=⟨b,3,none⟩) z).trans h.c3,(hb.cell (p:=⟨b,4,none⟩) z).trans h.c4⟩
variable{p u O:World}{w a:Nat}{M X aI aM:Int}{o:z10}{c:Value}{m:List UInt8}
theorem eO' (F:Xx u w M X aI aM o) (B:Below w p u) (G:Qt a u c m) (hb:w < a) (H:a<=u.heap.size)
  (z:u.grownBy O c.ownBlock):Xx O w M X aI aM o/\Below w p O/\a<=O.heap.size:=by
 have h1:Below a u O:=Y' z H (fun g z=>(G.lt g z).1);exact⟨F.below h1 hb,B.trans (h1.mono (by omega)),by have:=h1.size;omega⟩
theorem vE' (k e s q:Int) (b:z10):
  ([]++[UInt8.ofNat (k.toNat % 256)]++Qb.le4 e++[UInt8.ofNat (s.toNat % 256)]++Qb.le4 q++[UInt8.ofNat ((b.size:Int).toNat % 256)]++b.data.toList)=Qb.front k e s q b.data.toList:=by
 simp[Qb.front]
theorem eP' (k e s q:Int) (b:z10) (w:World) (hk:0<=k/\k < 256) (bk:0<=e/\e < 4294967296) (hs:0<=s/\s < 256) (bl:0<=q/\q < 4294967296) (hb:b.size < 256):
  Calls prog 92 #[.agg #[.int .i64 k, .int .i64 e, .int .i64 s, .int .i64 q, .string b]] w fun r w'=>
   ∃v,r= .returned v/\Qt (w.heap.size+1) w' v (Qb.bytes k e s q b.data.toList)/\Below w.heap.size w w':=by
 go_enter func92,ntmps92;go_upto_region 1 with fail;have M:=dX' w k e s q b 41;have ak:=(z11 w.heap.size w).alloc (z13 _) (.cells #[.int .i64 k, .int .i64 e, .int .i64 s, .int .i64 q, .string b] 41);have aQ:w.heap.size+1<=(w.alloc (.cells #[.int .i64 k, .int .i64 e, .int .i64 s, .int .i64 q, .string b] 41)).heap.size:=by simp
 generalize w.alloc (.cells #[.int .i64 k, .int .i64 e, .int .i64 s, .int .i64 q, .string b] 41)=w1 at *;obtain⟨z,F,G,H,I⟩:=id M;go_upto_region 2 with (at_make;refine lX' rfl _ _ rfl (w.heap.size+1) _ _ _ (15+b.size) rfl rfl (by omega) (by omega) (by omega) ?_;intro aR ao ap);have b2:=Y' (B:=w.heap.size+1) ap (by omega) (by simp);have aq:w.heap.size+1<=aR.heap.size:=by have:=b2.size;omega
 have O:=M.below b2 (by omega);have au:=ak.trans (b2.mono (by omega));have Q:=m' ao;clear ap b2 M ak z F G H I aQ ao;obtain⟨z,F,G,H,I⟩:=id O;go_upto_region 3 with (at_builtin;refine fo' rfl _ _ rfl (w.heap.size+1) _ [] k (d' Q) rfl rfl (by omega) (by omega) (by simp) (by omega) ?_;intro v3 aS av ax);obtain⟨V,ay,z3⟩:=eO' O au (d' Q) (by omega) aq ax;have Y:=m' av;clear av ax O au Q aq z F G H I;obtain⟨z,F,G,H,I⟩:=id V;go_upto_region 4 with (go_at_call 135;refine(aE' (w.heap.size+1) e v3 _ aS (by simp) (by omega) (by omega) (d' Y)).mono ?_;rintro r bm ⟨v4,rfl,az,aA⟩);obtain⟨Z,aB,z4⟩:=eO' V ay (d' Y) (by omega) z3 aA;have aa:=m' az;clear az aA V ay Y z3 z F G H I;obtain⟨z,F,G,H,I⟩:=id Z;go_upto_region 5 with (at_builtin;refine fo' rfl _ _ rfl (w.heap.size+1) _ _ s (d' aa) rfl rfl (by omega) (by omega) (by simp[Qb.Qw]) (by omega) ?_;intro v5 aT aC aD);obtain⟨ab,aE,z5⟩:=eO' Z aB (d' aa) (by omega) z4 aD;have ac:=m' aC;clear aC aD Z aB aa z4 z F G H I;obtain⟨z,F,G,H,I⟩:=id ab;go_upto_region 6 with (go_at_call 135;refine(aE' (w.heap.size+1) q v5 _ aT (by simp[Qb.Qw]) (by omega) (by omega) (d' ac)).mono ?_;rintro r bn ⟨v6,rfl,aF,aG⟩);obtain⟨ad,aH,aI⟩:=eO' ab aE (d' ac) (by omega) z5 aG;have ah:=m' aF;clear aF aG ab aE ac z5 z F G H I;obtain⟨z,F,G,H,I⟩:=id ad;go_upto_region 7 with (at_builtin;refine fo' rfl _ _ rfl (w.heap.size+1) _ _ (b.size:Int) (d' ah) rfl rfl (by omega) (by omega) (by simp[Qb.Qw]) (by omega) ?_;intro bo bp aJ aK);obtain⟨ai,aL,aM⟩:=eO' ad aH (d' ah) (by omega) aI aK;have aj:=m' aJ;clear aJ aK ad aH ah aI z F G H I;obtain⟨z,F,G,H,I⟩:=id ai;go_upto_region 8 with (at_builtin;refine rZ' rfl _ _ rfl (w.heap.size+1) _ _ (d' aj) rfl b rfl (by simp[Qb.Qw];omega) (by omega) ?_;intro v8 aU J aN);obtain⟨aV,aW,aX⟩:=eO' ai aL (d' aj) (by omega) aM aN;rw[vE']at J;clear aN ai aL aj aM z F G H I aV;have aY:(Qb.front k e s q b.data.toList).length=11+b.size:=by simp[Qb.front,Qb.Qw];omega
 obtain⟨g,cap,rfl,bq,br,bt,bu,aO⟩:=J.addr (by omega);have aP:=m' J;have aZ:=m' aO;clear J aO;have ba:(Qb.front k e s q b.data.toList).length<=1000:=by omega
 have bb:Hid (Qb.bytes k e s q b.data.toList=Qb.front k e s q b.data.toList++Qb.le4 (Qb.sum (Qb.front k e s q b.data.toList))):=rfl;have bc:=Qb.Ys (Qb.front k e s q b.data.toList);clear aY;generalize Qb.front k e s q b.data.toList=fr at *;go_wp2_with (first
  |(go_at_call 136;refine(nb' g 0 fr.length cap fr aU rfl (by unfold maxLen;omega) (d' aZ)).mono ?_;rintro r bd ⟨rfl,rfl⟩)
  |(go_at_call 135;refine(aE' (w.heap.size+1) _ _ fr _ ba (by omega) bc.1 (d' aP)).mono ?_;rintro r be ⟨bf,rfl,bg,bh⟩))
 have bi:Below (w.heap.size+1) bd be:=Y' bh aX (fun g bj=>((d' aP).lt g bj).1);go_ret;exact⟨bf,rfl,by rw[d' bb];exact bg,aW.trans (bi.mono (by omega))⟩
theorem cr' {k e s:Int} (h:Qb.proper k e s M o=true):
  (1<=k/\k<=5)/\(0<=e/\e<=2147483647)/\(0<=s/\s < 3)/\(0<=M/\M<=2147483647)/\o.size<=20:=by
 unfold Qb.proper at h;rw[z58]at h;obtain⟨z,h⟩:=h;have F:0<=e/\e<=2147483647:=by simpa[Qb.isNum]using z
 split at h
 ·simp only[Bool.and_eq_true,decide_eq_true_eq]at h;omega
 split at h
 ·simp only[Qb.Xh,Bool.and_eq_true,decide_eq_true_eq]at h;omega
 split at h
 ·simp[Qb.isStr,Qb.isNum]at h;omega
 split at h
 ·simp[Qb.isStr,Qb.isNum,Qb.Jj]at h;omega
 ·cases h
theorem fp' (k e s q:Int) (b:z10) (w:World) (z:Qb.proper k e s q b=true):
  Calls prog 92 #[.agg #[.int .i64 k, .int .i64 e, .int .i64 s, .int .i64 q, .string b]] w fun r w'=>
   ∃v,r= .returned v/\Qt (w.heap.size+1) w' v (Qb.bytes k e s q b.data.toList)/\Below w.heap.size w w':=by
 obtain⟨h1,h2,h3,h4,h5⟩:=cr' z;exact eP' k e s q b w (by omega) (by omega) (by omega) (by omega) (by omega)
end Go.Proofs.YtamafdcnbcoegaaGreat
namespace Go.Proofs.YtamafdcnbcoegaaGreat
namespace Qb
theorem le4_num4 (a b c d:UInt8):le4 (Vv a b c d)=[a,b,c,d]:=by
 have I:=a.toNat_lt;have hb:=b.toNat_lt;have J:=c.toNat_lt;have hd:=d.toNat_lt;have e:(Vv a b c d).toNat=a.toNat+b.toNat * 256+c.toNat * 65536+d.toNat * 16777216:=by unfold Vv;omega
 unfold le4;rw[e];have z:(a.toNat+b.toNat * 256+c.toNat * 65536+d.toNat * 16777216) % 256=a.toNat:=by omega
 have F:(a.toNat+b.toNat * 256+c.toNat * 65536+d.toNat * 16777216) / 256 % 256=b.toNat:=by omega
 have G:(a.toNat+b.toNat * 256+c.toNat * 65536+d.toNat * 16777216) / 65536 % 256=c.toNat:=by omega
 have H:(a.toNat+b.toNat * 256+c.toNat * 65536+d.toNat * 16777216) / 16777216 % 256=d.toNat:=by omega
 rw[z,F,G,H];simp
theorem num4_le4 {n:Int} (h0:0<=n) (h1:n < 4294967296):
  Vv (UInt8.ofNat (n.toNat % 256)) (UInt8.ofNat (n.toNat / 256 % 256)) (UInt8.ofNat (n.toNat / 65536 % 256)) (UInt8.ofNat (n.toNat / 16777216 % 256))=n:=by
 unfold Vv;simp;omega
theorem eleven {l:List UInt8} (h:11<=l.length):∃c0 c1 c2 c3 c4 c5 z F G H I r,l=c0::c1::c2::c3::c4::c5::z::F::G::H::I::r:=by
 match l,h with
 |c0::c1::c2::c3::c4::c5::z::F::G::H::I::r,_=>exact⟨_,_,_,_,_,_,_,_,_,_,_,_,rfl⟩
variable{m:List UInt8}{w:Nat}
theorem last_four (h:m.length=w+4):m=m.take w++[m.getD w 0,m.getD (w+1) 0,m.getD (w+2) 0,m.getD (w+3) 0]:=by
 apply z94;intro i;by_cases hi:i < w
 ·rw[z45 (by simp;omega),z69,if_pos hi]
 ·rw[z29 (by simp;omega)];have hl:(m.take w).length=w:=by simp;omega
  rw[hl];by_cases h4:i < w+4
  ·have:i=w\/i=w+1\/i=w+2\/i=w+3:=(by omega);have g:∀j,j < m.length->m[j]? =some (m.getD j 0):=(by intro j hj;simp[List.getD_eq_getElem?_getD,hj]);rw[g i (by omega)];rcases this with rfl|rfl|rfl|rfl <;> simp
  ·rw[z76 (by omega),z76 (by simp;omega)]
theorem numAt_cons11 (c0 c1 c2 c3 c4 c5 z F G H I:UInt8) (r:List UInt8) (n:Nat):
  Qg (c0::c1::c2::c3::c4::c5::z::F::G::H::I::r) (n+11)=Vv (r.getD n 0) (r.getD (n+1) 0) (r.getD (n+2) 0) (r.getD (n+3) 0):=by
 simp[Qg,List.getD_eq_getElem?_getD]
theorem whole_bytes (h:whole m=true):bytes (Jr m) (Jm m) (Qu m) (Xt m) (Ju m).data.toList=m:=by
 unfold whole at h;simp only[Bool.and_eq_true,decide_eq_true_eq]at h;obtain⟨M,hl,hs⟩:=h;obtain⟨c0,c1,c2,c3,c4,c5,F,G,H,I,z,r,rfl⟩:=eleven (l:=m) (by omega);simp only[List.length_cons,List.getD_cons_succ,List.getD_cons_zero]at hl M;generalize hn:z.toNat=n at hl;have O:r.length=n+4:=by omega
 have J:(c0::c1::c2::c3::c4::c5::F::G::H::I::z::r).length - 4=n+11:=by simp;omega
 rw[J,numAt_cons11]at hs;have hb:(Ju (c0::c1::c2::c3::c4::c5::F::G::H::I::z::r)).data.toList=r.take n:=by unfold Ju;rw[J];simp
 have Q:front (Jr (c0::c1::c2::c3::c4::c5::F::G::H::I::z::r)) (Jm (c0::c1::c2::c3::c4::c5::F::G::H::I::z::r))
   (Qu (c0::c1::c2::c3::c4::c5::F::G::H::I::z::r)) (Xt (c0::c1::c2::c3::c4::c5::F::G::H::I::z::r)) (r.take n)
   =c0::c1::c2::c3::c4::c5::F::G::H::I::z::r.take n:=by
  have V:Jm (c0::c1::c2::c3::c4::c5::F::G::H::I::z::r)=Vv c1 c2 c3 c4:=rfl;have Y:Xt (c0::c1::c2::c3::c4::c5::F::G::H::I::z::r)=Vv F G H I:=rfl;have Z:Jr (c0::c1::c2::c3::c4::c5::F::G::H::I::z::r)=c0.toNat:=rfl;have aa:Qu (c0::c1::c2::c3::c4::c5::F::G::H::I::z::r)=c5.toNat:=rfl;have ab:(r.take n).length=n:=by simp;omega
  have a0:=c0.toNat_lt;have a5:=c5.toNat_lt;have ad:=z.toNat_lt;unfold front;rw[V,Y,Z,aa,ab,le4_num4,le4_num4,<-hn];simp
 unfold bytes;rw[hb,Q];have ac:(c0::c1::c2::c3::c4::c5::F::G::H::I::z::r).take (n+11)=c0::c1::c2::c3::c4::c5::F::G::H::I::z::r.take n:=by simp
 rw[ac]at hs;rw[<-hs,le4_num4];have:=last_four O;simp only[List.cons_append];rw[<-this]
theorem Yf (k e s q:Int) (b:List UInt8):(front k e s q b).length=11+b.length:=by
 simp[front,Qw];omega
theorem Vm (k e s q:Int) (b:List UInt8):(bytes k e s q b).length=15+b.length:=by
 simp[bytes,Yf,Qw];omega
theorem at10_bytes (k e s q:Int) (b:List UInt8) (hb:b.length < 256):((bytes k e s q b).getD 10 0).toNat=b.length:=by
 simp[bytes,front,le4];omega
theorem parts_bytes {k e s q:Int} {b:z10} (hk:0<=k/\k < 256) (z:0<=e/\e < 4294967296) (hs:0<=s/\s < 256) (F:0<=q/\q < 4294967296) (hb:b.size < 256):
  whole (bytes k e s q b.data.toList)=true/\Jr (bytes k e s q b.data.toList)=k/\Jm (bytes k e s q b.data.toList)=e/\Qu (bytes k e s q b.data.toList)=s/\
   Xt (bytes k e s q b.data.toList)=q/\Ju (bytes k e s q b.data.toList)=b:=by
 have M:b.data.toList.length=b.size:=by simp
 have hl:=Vm k e s q b.data.toList;have O:=Yf k e s q b.data.toList;have G:(bytes k e s q b.data.toList).take ((bytes k e s q b.data.toList).length - 4)=front k e s q b.data.toList:=by rw[hl];unfold bytes;rw[z82 (by omega),z46 (by omega)]
 have H:=Ys (front k e s q b.data.toList);refine⟨?_,?_,?_,?_,?_,?_⟩
 ·unfold whole;have I:Qg (bytes k e s q b.data.toList) ((bytes k e s q b.data.toList).length - 4)=sum (front k e s q b.data.toList):=by have J:(bytes k e s q b.data.toList).length - 4=(front k e s q b.data.toList).length:=(by omega);rw[J];unfold Qg bytes;generalize front k e s q b.data.toList=f at *;have g:∀i,(f++le4 (sum f)).getD (f.length+i) 0=(le4 (sum f)).getD i 0:=(by intro i;rw[z17,z17,z29 (by omega)];congr 2;omega);have g0:=g 0;rw[vu']at g0;rw[g0,g 1,g 2,g 3];exact num4_le4 H.1 H.2
  rw[G,I,at10_bytes k e s q _ (by omega)];simp[hl]
 ·simp[Jr,bytes,front];omega
 ·have:=num4_le4 z.1 z.2;simpa[Jm,Qg,bytes,front,le4]using this
 ·simp[Qu,bytes,front,le4];omega
 ·have:=num4_le4 F.1 F.2;simpa[Xt,Qg,bytes,front,le4]using this
 ·unfold Ju;rw[G];apply tY';simp[front,le4]
end Qb
end Go.Proofs.YtamafdcnbcoegaaGreat
namespace Go.Proofs.YtamafdcnbcoegaaGreat
open Go.RowKit Go.Proofs.Tryz
open Qb (whole)
def bI':Value:= .agg #[.int .i64 0, .int .i64 0, .int .i64 0, .int .i64 0, .string ⟨#[]⟩]
variable{p u:World}{w:Nat}
theorem di' (h:Below w p u) (a b c d e:Value):
  Below w p (((((u.setCell ⟨w,0,none⟩ a).setCell ⟨w,1,none⟩ b).setCell ⟨w,2,none⟩ c).setCell ⟨w,3,none⟩ d).setCell ⟨w,4,none⟩ e):=
 ((((h.setCell (p:=⟨w,0,none⟩) (z13 _) a).setCell (p:=⟨w,1,none⟩) (z13 _) b).setCell (p:=⟨w,2,none⟩) (z13 _) c).setCell (p:=⟨w,3,none⟩) (z13 _) d).setCell (p:=⟨w,4,none⟩) (z13 _) e
theorem nV' (z:Option Addr) (len cap:Nat) (w:World) (h:(len:Int) < 15):
  Calls prog 54 #[.slice z len cap] w fun r w'=>r= .returned (.tuple #[bI', .int .i64 1])/\Below w.heap.size w w':=by
 go_enter func54,ntmps54;go_wp2_with (go_at_call 94;refine(mc' _ _ _ _ h).mono ?_;rintro r w1 ⟨rfl,rfl⟩);refine z50 (v:= .tuple #[bI', .int .i64 1]) (by simp[results,results54,go_sem,bI']) rfl ⟨rfl,?_⟩;exact(z11 _ _).alloc (z13 _) _
theorem sc' (b off m cap:Nat) (l:List UInt8) (w:World) (G:l.length=m+4) (H:m+4<=maxLen) (I:m+4<=cap) (J:11<=m) (M:whole l=false)
  (z:∀i,i < m+4->w.cell? ⟨b,off+i,none⟩=some (.int .u8 (l.getD i 0).toNat)):
  Calls prog 54 #[.slice (some ⟨b,off,none⟩) (m+4) cap] w fun r w'=>r= .returned (.tuple #[bI', .int .i64 1])/\Below w.heap.size w w':=by
 have F:=fun o=>m' (hi' b off m cap l (w.alloc o) G H I J (fun i hi=>by have:=z i hi;rw[<-this];exact z85 _ _ _ (z66 _ _ this)));rw[M]at F;clear z;go_enter func54,ntmps54;go_wp2_with (go_at_call 94;refine(d' (F _)).mono ?_;rintro r w1 ⟨rfl,n1,rfl⟩);refine z50 (v:= .tuple #[bI', .int .i64 1]) (by simp[results,results54,go_sem,bI']) rfl ⟨rfl,?_⟩;exact di' (z41 ((z11 _ _).alloc (z13 _) _) _) _ _ _ _ _
def jh' (l:List UInt8):Value:= .agg #[.int .i64 (Qb.Jr l), .int .i64 (Qb.Jm l), .int .i64 (Qb.Qu l), .int .i64 (Qb.Xt l), .string (Qb.Ju l)]
theorem hp' (l:List UInt8):0<=Qb.Jr l/\Qb.Jr l < 256:=by
 have:=(l.getD 0 0).toNat_lt;unfold Qb.Jr;omega
theorem fq' (l:List UInt8):0<=Qb.Qu l/\Qb.Qu l < 256:=by
 have:=(l.getD 5 0).toNat_lt;unfold Qb.Qu;omega
variable{M:Int}
theorem dj' (h:0<=M/\M < 4294967296):IntKind.i64.wrap M=M:=by rw[z36];omega
theorem pp' (b off k cap:Nat) (w:World) (z G F H:Int) (I:z10) (aK:k+15<=9223372036854775807) (aL:k+15<=cap)
  (aj:0<=z/\z < 4294967296) (ak:0<=G/\G < 4294967296) (ao:0<=F/\F < 4294967296) (ap:0<=H/\H < 4294967296) (p:Bool) (Y:Qb.proper z G F H I=p)
  (Z:∀o,Hid (Calls prog 94 #[.slice (some ⟨b,off,none⟩) (k+15) cap] (w.alloc o) fun r w'=>r= .returned (.bool true)/\∃n,w'=(w.alloc o).drewN n))
  (aa:Hid (∀w',Below w.heap.size w w'->Below w.heap.size w w'/\w'.cell? ⟨b,off,none⟩=some (.int .u8 z)/\w'.cell? ⟨b,off+5,none⟩=some (.int .u8 F)/\
   (convert 44 9 (.slice (some ⟨b,off+11,none⟩) k (cap - 11))).run prog w'= .ok (.string I) w'))
  (ab:Hid (∀w',Below w.heap.size w w'->Calls prog 95 #[.slice (some ⟨b,off+1,none⟩) (k+14) (cap - 1)] w' fun e Q=>e= .returned (.int .u32 G)/\∃n,Q=w'.drewN n))
  (ac:Hid (∀w',Below w.heap.size w w'->Calls prog 95 #[.slice (some ⟨b,off+6,none⟩) (k+9) (cap - 6)] w' fun e Q=>e= .returned (.int .u32 H)/\∃n,Q=w'.drewN n)):
  Calls prog 54 #[.slice (some ⟨b,off,none⟩) (k+15) cap] w fun r w'=>
   r= .returned (if p=true then .tuple #[.agg #[.int .i64 z, .int .i64 G, .int .i64 F, .int .i64 H, .string I], .int .i64 0]else .tuple #[bI', .int .i64 1])/\Below w.heap.size w w':=by
 have V:=fun w'=>m' (po' z G F H I w');rw[Y]at V;clear Y;have i0:(0:Int) < (k:Int)+15:=by omega
 have i5:(5:Int) < (k:Int)+15:=by omega
 have s1:(1:Int)<=(k:Int)+15:=by omega
 have aq:(6:Int)<=(k:Int)+15:=by omega
 have au:(11:Int)<=(k:Int)+11:=by omega
 have av:(k:Int)+11<=(cap:Int):=by omega
 have ax:(4:Int)<=(k:Int)+15:=by omega
 have ay:(k:Int)+15 - 4<=(cap:Int):=by omega
 have t1:((k:Int)+11).toNat - 11=k:=by omega
 have t2:((k:Int)+15 - 4).toNat - 11=k:=by omega
 have t3:(11:Int)<=max ((k:Int)+15 - 4) 0:=by omega
 have g1:IntKind.i64.wrap ((k:Int)+15 - 4)=(k:Int)+11:=by rw[z36];omega
 have g2:IntKind.i64.wrap (((k+15:Nat):Int) - 4)=(k:Int)+11:=by rw[z36];omega
 have ad:True:=trivial;have k1:¬cap=1:=by omega
 have k6:¬cap=6:=by omega
 have k11:¬cap=11:=by omega
 have az:=dj' aj;have aA:=dj' ak;have aB:=dj' ao;have aC:=dj' ap;go_enter func54,ntmps54;go_upto_region 3 with (go_at_call 94;refine(d' (Z _)).mono ?_;rintro r w1 ⟨rfl,n1,rfl⟩);go_region_held3 (fun w'=>Below w.heap.size w w'/\w'.cell? ⟨b,off,none⟩=some (.int .u8 z)/\w'.cell? ⟨b,off+5,none⟩=some (.int .u8 F)/\
  (convert 44 9 (.slice (some ⟨b,off+11,none⟩) k (cap - 11))).run prog w'= .ok (.string I) w')
  ((refine d' aa _ ?_;repeat (first|with_reducible exact z11 _ _|with_reducible refine z41 ?_ _|with_reducible refine Below.drew ?_|with_reducible refine Below.alloc ?_ (by simp) _|with_reducible refine Below.setCell ?_ (by simp) _)))
  (first
   |(go_at_call 95;have _:=ad;refine(d' ab _ ?_).mono ?_;(focus (repeat (first|with_reducible exact z11 _ _|with_reducible refine z41 ?_ _|with_reducible refine Below.drew ?_|with_reducible refine Below.alloc ?_ (by simp) _|with_reducible refine Below.setCell ?_ (by simp) _)));clear ad;rintro r w1 ⟨rfl,n2,rfl⟩)
   |(go_at_call 95;refine(d' ac _ ?_).mono ?_;(focus (repeat (first|with_reducible exact z11 _ _|with_reducible refine z41 ?_ _|with_reducible refine Below.drew ?_|with_reducible refine Below.alloc ?_ (by simp) _|with_reducible refine Below.setCell ?_ (by simp) _)));rintro r w1 ⟨rfl,n2,rfl⟩))
 all_goals
  clear aa ab ac Z i0 i5 s1 aq au av ax ay t1 t2 t3 g1 g2 k1 k6 k11 az aA aB aC;rename Below _ _ _/\ _=>hH;have M:=hH.1;clear hH
 all_goals
  go_upto_region 4 with fail
  refine G' (fun X=>Xx X w.heap.size 0 0 0 0 ⟨#[]⟩/\Xx X (w.heap.size+1) z G F H I/\(∀i,X.frozen? ⟨w.heap.size,i,none⟩=false)/\Below w.heap.size w X/\w.heap.size+2<=X.heap.size) ⟨by constructor <;> go_simp,by constructor <;> go_simp,by intro i;go_simp,M,by simp⟩ ?_;clear M;rintro X ⟨z0,f0,ah,M,aD⟩
 all_goals
  obtain⟨aE,aF,aG,aH,aI⟩:=id f0;cases p;all_goals
   go_upto_if 34 with (go_at_call 96;refine(d' (V _)).mono ?_;rintro r aJ ⟨rfl,O⟩)
   obtain⟨aM,aN,aO,aP,aQ⟩:=z0.below O (by omega);obtain⟨f30,f31,f32,f33,f34⟩:=f0.below O (by omega);have J:∀i,aJ.frozen? ⟨w.heap.size,i,none⟩=false:=fun i=>(O.frozen (p:=⟨w.heap.size,i,none⟩) (by simp;omega)).trans (ah i);have aR:=J 0;have aS:=J 1;have aT:=J 2;have aU:=J 3;have aV:=J 4;have ai:=M.trans (O.mono (by omega));clear J O z0 f0 ah aE aF aG aH aI V M aD;go_wp2
  ·refine z50 (v:= .tuple #[bI', .int .i64 1]) (by simp[results,results54,go_sem,bI', *]) rfl ⟨rfl,?_⟩;exact di' ai _ _ _ _ _
  ·refine z50 (v:= .tuple #[.agg #[.int .i64 z, .int .i64 G, .int .i64 F, .int .i64 H, .string I], .int .i64 0]) (by simp[results,results54,go_sem, *]) rfl ⟨rfl,?_⟩;exact di' ai _ _ _ _ _
def Qn (w:World) (v:Value) (l:List UInt8):Prop:=
 ∃z cap,v= .slice z l.length cap/\l.length<=cap/\l.length<=9223372036854775807/\
  (0 < l.length->∃b off,z=some ⟨b,off,none⟩/\∀i,i < l.length->w.cell? ⟨b,off+i,none⟩=some (.int .u8 (l.getD i 0).toNat))
theorem Qt.at {B:Nat} {w:World} {v:Value} {l:List UInt8} (h:Qt B w v l):Qn w v l:=by
 by_cases h0:0 < l.length
 ·obtain⟨g,cap,rfl,_,_,h1,h2,h3⟩:=h.addr h0;exact⟨_,cap,rfl,h1,by unfold maxLen at h2;omega,fun _=>⟨g,0,rfl,h3⟩⟩
 ·obtain⟨z,cap,rfl,h1⟩:=h.shape;exact⟨z,cap,rfl,h1,by omega,fun h=>absurd h h0⟩
theorem Qn.below {w w':World} {v:Value} {l:List UInt8} (h:Qn w v l) (hb:Below w.heap.size w w'):Qn w' v l:=by
 obtain⟨F,cap,rfl,h1,h2,h3⟩:=h;refine⟨F,cap,rfl,h1,h2,fun h0=>?_⟩;obtain⟨b,off,rfl,z⟩:=h3 h0;exact⟨b,off,rfl,fun i hi=>(hb.cell (p:=⟨b,off+i,none⟩) (z66 _ ⟨b,off+i,none⟩ (z i hi))).trans (z i hi)⟩
theorem eV' (v:Value) (l:List UInt8) (w:World) (h:Qn w v l):
  Calls prog 54 #[v] w fun r w'=>r= .returned (if Qb.reads l=true then .tuple #[jh' l, .int .i64 0]else .tuple #[bI', .int .i64 1])/\Below w.heap.size w w':=by
 obtain⟨M,cap,rfl,G,I,F⟩:=h;by_cases V:l.length < 15
 ·have:Qb.reads l=false:=by unfold Qb.reads whole;rw[z52 (by omega)];simp
  rw[this];exact nV' M l.length cap w (by omega)
 ·obtain⟨b,off,rfl,J⟩:=F (by omega);clear F;have F:=J;clear J;obtain⟨k,hk⟩:∃k,l.length=k+15:=⟨l.length - 15,by omega⟩;rw[hk]at G I F;rw[hk];cases H:whole l
  ·have:Qb.reads l=false:=(by unfold Qb.reads;rw[H];simp);rw[this];exact sc' b off (k+11) cap l w hk (by unfold maxLen;omega) G (by omega) H F
  ·have O:Qb.reads l=Qb.proper (Qb.Jr l) (Qb.Jm l) (Qb.Qu l) (Qb.Xt l) (Qb.Ju l):=(by unfold Qb.reads;rw[H];simp);rw[O];have Q:b < w.heap.size:=z66 _ _ (F 0 (by omega));have z:∀w',Below w.heap.size w w'->∀i,i < k+15->w'.cell? ⟨b,off+i,none⟩=some (.int .u8 (l.getD i 0).toNat):=fun w' h i hi=>(h.cell (p:=⟨b,off+i,none⟩) Q).trans (F i hi);have k1:=hp' l;have k3:=fq' l;refine pp' b off k cap w (Qb.Jr l) (Qb.Jm l) (Qb.Qu l) (Qb.Xt l) (Qb.Ju l) I G ⟨k1.1,by omega⟩ (Qb.Jk l 1) ⟨k3.1,by omega⟩ (Qb.Jk l 6) _ rfl ?_ ?_ ?_ ?_
   ·intro o;have:=hi' b off (k+11) cap l (w.alloc o) hk (by unfold maxLen;omega) G (by omega) (fun i hi=>by have:=F i hi;rw[<-this];exact z85 _ _ _ (z66 _ _ this));rw[H]at this;exact this
   ·intro w' h;refine⟨h,z w' h 0 (by omega),z w' h 5 (by omega),ec' (l:=(l.take (l.length - 4)).drop 11) (by simp;omega) (fun i hi=>?_)⟩;rw[xK',z w' h (11+i) (by omega)];simp only[List.getD_eq_getElem?_getD,List.getElem?_drop,List.getElem?_take];rw[if_pos (by omega)]
   ·intro w' h;exact dL' b (off+1) (k+14) (cap - 1) _ _ _ _ w' (by omega) (z w' h 1 (by omega)) (z w' h 2 (by omega)) (z w' h 3 (by omega)) (z w' h 4 (by omega))
   ·intro w' h;exact dL' b (off+6) (k+9) (cap - 6) _ _ _ _ w' (by omega) (z w' h 6 (by omega)) (z w' h 7 (by omega)) (z w' h 8 (by omega)) (z w' h 9 (by omega))
end Go.Proofs.YtamafdcnbcoegaaGreat
namespace Go.Proofs.YtamafdcnbcoegaaGreat
open Go.RowKit Go.Proofs.Tryz
theorem hu' {z:Array Oper} {rest:List Oper} {o:Oper} {a:Act} {F:Exit->Act->World->Prop} {w:World} (H:o.guard=none) (l c:Operand)
  (I:o.op=Op.makeSlice 44 l c) (B:Nat) (kl G:IntKind) (L C:Int) (n:Nat) (hl:a.eval l= .int kl L) (J:a.eval c= .int G C) (M:L=(n:Int)) (O:C=(n:Int)) (aa:n<=281474976710656) (Q:B<=w.heap.size)
  (h:∀w',Qt B w' (.slice (some ⟨w.heap.size,0,none⟩) n n) (List.replicate n 0)->w.grownBy w' none->wpList prog z F rest (a.put o.dst (.slice (some ⟨w.heap.size,0,none⟩) n n)) w'):
  wpList prog z F (o::rest) a w:=by
 obtain⟨i0,hi,V,Y,Z⟩:=nT' jf';refine wpList_make_full (P:=prog) w H l c 44 I B 5 i0 (.int .u8 0) 1 underlying44 hi V Y kl G L C n hl J M O (by rw[Z];omega) (by unfold maxLen;omega) Q ?_;intro w' h1 h2;refine h w' ?_ h2;unfold Qt;have e:bv (List.replicate n 0)=(madeCells (Value.int .u8 0).cells (n * 1)).toList:=by show _=(madeCells #[Value.int .u8 0] (n * 1)).toList;rw[toList_madeCells_one,zb'];simp[bv]
 rw[e,z55];exact h1
theorem ko' (w:World) (s:z10) (hs:s.size<=140737488355328):
  ∃v w',(convert 9 44 (.string s)).run prog w= .ok v w'/\Qn w' v s.data.toList/\Below w.heap.size w w':=by
 refine⟨_,_,run_bytes_of_string w 9 44 5 s underlying9 underlying44 underlying5,?_,?_⟩
 ·have hl:s.data.toList.length=s.size:=by simp
  refine⟨_,_,by rw[hl],by rw[hl];exact ua' w s.size 0 5,by omega,fun _=>⟨w.heap.size,0,rfl,fun i hi=>?_⟩⟩;rw[hl]at hi;generalize F:bytesRow s (grownCap w s.size 0 5)=C;have G:(w.drew.alloc (.cells C 5 (C.size,C.size+1))).cell? ⟨w.heap.size,0+i,none⟩=C[0+i]? :=by
   unfold World.cell?;have:(w.drew.alloc (.cells C 5 (C.size,C.size+1))).heap[w.heap.size]? =some (.cells C 5 (C.size,C.size+1)):=by show(w.heap.push _)[w.heap.size]? = _;simp
   rw[this];rfl
  rw[G,<-F,z44];have z:i < s.data.size:=hi;unfold bytesRow;rw[Array.getElem?_append_left (by simpa using z)];have H:s.data[i]? =some s.data[i]:=z75 z;simp[H]
 ·exact((z11 _ _).drew).alloc (z13 _) _
structure Far (E:Nat->Prop) (w x:World):Prop where
 os:x.os=w.os
 tape:x.tape=w.tape
 output:x.output=w.output
 size:w.heap.size<=x.heap.size
 rest:∀k,k < w.heap.size->¬E k->x.heap[k]? =w.heap[k]?
theorem Far.refl (E:Nat->Prop) (w:World):Far E w w:=⟨rfl,rfl,rfl,z13 _,fun _ _ _=>rfl⟩
theorem Far.trans {E E':Nat->Prop} {w x y:World} (h:Far E w x) (z:Far E' x y) (G:∀k,k < w.heap.size->E' k->E k):Far E w y:=
 ⟨z.os.trans h.os,z.tape.trans h.tape,z.output.trans h.output,z26 h.size z.size,fun k hk F=>(z.rest k (z20 hk h.size) (fun e=>F (G k hk e))).trans (h.rest k hk F)⟩
theorem Far.mono {E E':Nat->Prop} {w x:World} (h:Far E w x) (z:∀k,k < w.heap.size->E k->E' k):Far E' w x:=
 ⟨h.os,h.tape,h.output,h.size,fun k hk F=>h.rest k hk (fun e=>F (z k hk e))⟩
theorem Far.below {E:Nat->Prop} {w x:World} (h:Far E w x) {B:Nat} (z:B<=w.heap.size) (F:∀k,k < B->¬E k):Below B w x:=
 ⟨h.os,h.tape,h.output,h.size,fun k hk=>h.rest k (z20 hk z) (F k hk)⟩
theorem C' {E:Nat->Prop} {w x:World} (h:Below w.heap.size w x):Far E w x:=⟨h.os,h.tape,h.output,h.size,fun k hk _=>h.block k hk⟩
def wr (z:Array Oper) (t:Tmp):Option Nat:=(List.range z.size).find? fun j=>((z[j]?).bind (·.dst)) ==some t
def bJ' (z:Array Oper) (i j:Nat):Bool:=match z[i]? with
 |some o=>o.after.any fun e=>Region.binds .any e&&e.on==j
 |none=>false
def kp' (z:Array Oper) (size:Nat):Bool:=
 Region.noSelect z&& (List.range z.size).all fun i=>match z[i]? with
  |none=>false
  |some o=>(match o.dst with
    |none=>true
    |some d=>decide (d < size) &&wr z d==some i)
   && ((o.looksAt z).all fun t=>decide (t < 1000) &&match wr z t with
    |none=>true
    |some j=>bJ' z i j||bJ' z j i)
   &&o.after.all fun e=> !Region.binds .any e||decide (e.on < i)
def vF' (z:Array Oper) (last:Nat):Bool:=(List.range last).all fun i=>(List.range (last+1)).any fun k=>bJ' z k i
def vG' (z:Array Oper) (c:Nat):Bool:=(List.range z.size).all fun k=>decide (k<=c) || (List.range z.size).any fun j=>decide (c<=j) &&bJ' z k j
def eW' (c n:Nat):Array Bool:=((List.range n).map fun k=>decide (k<=c)).toArray
theorem nc' {I:Type} {p q:I->Bool}:∀ {l:List I},(∀x∈l,q x=true->p x=true)->(∃x∈l,p x=true/\q x=false)->l.countP q < l.countP p
 |[],_,⟨_,h,_⟩=>by cases h
 |y::l,h,⟨x,z,h1,h2⟩=>by
  have J:l.countP q<=l.countP p:=List.countP_mono_left (fun F G=>h F (xH' _ G));rcases vw'.1 z with rfl|z
  ·rw[za' h1,List.countP_cons_of_neg (by simp[h2])];omega
  ·have ih:=nc' (fun F G=>h F (xH' _ G)) ⟨x,z,h1,h2⟩;by_cases H:q y=true
   ·rw[za' H,za' (h y (zc' ..) H)];omega
   ·rw[List.countP_cons_of_neg H];have:List.countP p (y::l)=l.countP p+if p y=true then 1 else 0:=by rw[rW']
    rw[this];split <;> omega
theorem fj' (i:Nat):∀n,i<=n->(List.range n).countP (fun k=>decide (i<=k))=n - i
 |0,h=>by simp
 |n+1,h=>by
  rw[z199,List.countP_append,List.countP_singleton];by_cases z:i<=n
  ·rw[fj' i n z];simp[z];omega
  ·have:i=n+1:=(by omega);subst this;have h0:(List.range n).countP (fun k=>decide (n+1<=k))=0:=(by rw[xJ'];intro k hk;have:=z87.1 hk;simp;omega);rw[h0];simp
structure kq' (ops:Array Oper) (OW:Oper->Act->World->(Act->World->Prop)->Prop) (N:Act->World->Prop) (WA:Nat->Array Bool->Act->World->Prop):Prop where
 done:∀ {f L a w},Region.ready .any ops L=[]->N a w->WA f L a w
 step:∀ {f L a w},Region.ready .any ops L≠ []->(∀i∈Region.ready .any ops L,∀o,ops[i]? =some o->if Region.wanted o (yielded ops a.tmps)=true then OW o a w (WA f (L.setIfInBounds i true))else WA f (L.setIfInBounds i true) (a.put o.dst undef) w)->WA (f+1) L a w
 mono:∀ {o a w} {R R':Act->World->Prop},(∀a' w',R a' w'->R' a' w')->OW o a w R->OW o a w R'
section
variable {P:Program} {ops:Array Oper} {Q:Exit->Act->World->Prop} {lr n:Nat}
theorem hx':kq' ops (fun o a w R=>o.wp P a w R Q) (Q .normal) (wpAny P .any ops Q):=
 ⟨fun h hn=>wpAny_done h hn _,fun G h=>⟨fun e=>absurd e G,fun i hi=>by
  obtain⟨_,o,F,_⟩:=rY'.1 hi;have:=h i hi o F;unfold wpOp;rw[F];simp only[];split at this
  ·rename_i z;rw[if_pos z];exact .inl this
  ·rename_i z;rw[if_neg z];exact this⟩,fun h H=>Oper.wp_mono h H⟩
theorem nW':kq' ops (fun o a w R=>Oper.wpIn (Fence.wide.inRound lr) n P o a w R Q) (Q .normal) (wpAnyIn (Fence.wide.inRound lr) n P .any ops Q):=
 ⟨fun h hn=>wpAnyIn_done h hn _,fun G h=>⟨fun e=>absurd e G,fun i hi=>by
  obtain⟨_,o,F,_⟩:=rY'.1 hi;have:=h i hi o F;unfold wpOpIn;rw[F];simp only[];split at this
  ·rename_i z;rw[if_pos z];exact this
  ·rename_i z;rw[if_neg z];exact⟨fun _ _=>trivial,this⟩⟩,fun h H=>Oper.wpIn_mono h H⟩
def tx' (ops:Array Oper) (z:Nat->Value->World->Prop) (a0:Act) (i:Nat) (o:Oper) (a:Act) (w:World):Prop:=
 ∀t∈o.looksAt ops,match wr ops t with
  |some j=>if bJ' ops i j=true then z j (a.tmps.getD t undef) w else a.tmps.getD t undef=a0.tmps.getD t undef
  |none=>a.tmps.getD t undef=a0.tmps.getD t undef
structure ty' (ops:Array Oper) (sk:Nat->Tmp) (Φ:Nat->Value->World->Prop) (E:Nat->Nat->Prop) (a0:Act) (w0:World) (c:Nat) (L:Array Bool) (a:Act) (w:World):Prop where
 size:L.size=ops.size
 ext:Far (fun b=>∃k,L.getD k false=true/\E k b) w0 w
 closed:∀k,L.getD k false=true->∀j,bJ' ops k j=true->L.getD j false=true
 vals:∀i o,ops[i]? =some o->L.getD i false=true->Φ i (a.tmps.getD (sk i) undef) w
 rest:∀t,(∀j,wr ops t=some j->L.getD j false=false)->a.tmps.getD t undef=a0.tmps.getD t undef
 defers:a.defers=a0.defers
 tsize:a.tmps.size=a0.tmps.size
 un:∀k,c<=k->L.getD k false=false
variable{w a:Nat}{N:Oper}
theorem hy' (F:ops[w]? =some N):bJ' ops w a=true↔ ∃e∈N.after,Region.binds .any e=true/\e.on=a:=by
 unfold bJ';rw[F];constructor
 ·intro h;obtain⟨e,z,hb⟩:=Array.any_eq_true'.1 h;simp only[Bool.and_eq_true,beq_iff_eq]at hb;exact⟨e,z,hb⟩
 ·rintro⟨e,z,hb,rfl⟩;exact Array.any_eq_true'.2 ⟨e,z,by simp[hb]⟩
theorem co' (h:kp' ops w=true) (z:ops[a]? =some N):
  (∀d,N.dst=some d->d < w/\wr ops d=some a)/\(∀t∈N.looksAt ops,t < 1000/\∀j,wr ops t=some j->bJ' ops a j=true\/bJ' ops j a=true)/\(∀j,bJ' ops a j=true->j < a):=by
 unfold kp' at h;rw[z58]at h;have hi:a < ops.size:=(z21.1 z).1;have h1:=nS'.1 h.2 a (z87.2 hi);simp only[z,Bool.and_eq_true]at h1;obtain⟨⟨h1,h2⟩,h3⟩:=h1;refine⟨fun d hd=>?_,fun t F=>?_,fun j hj=>?_⟩
 ·rw[hd]at h1;simp only[Bool.and_eq_true,decide_eq_true_eq,beq_iff_eq]at h1;exact h1
 ·have:=nS'.1 h2 t F;rw[z58,z67]at this;refine⟨this.1,fun j hj=>?_⟩;have:=this.2;rw[hj]at this;simpa using this
 ·obtain⟨e,G,hb,rfl⟩:=(hy' z).1 hj;have:=z49.1 h3 e G;simp[hb]at this;omega
variable{bM:Oper -> Act -> World -> (Act -> World -> Prop) -> Prop}{cP:Act -> World -> Prop}{bO:Nat -> Array Bool -> Act -> World -> Prop}{I:Act}
theorem xM' (r:kq' ops bM cP bO) {w0:World} (H:Nat->Tmp) (G:Nat->Value->World->Prop) (E:Nat->Nat->Prop) (av:Nat) (X:World->World->Prop) (aQ:∀w,X w w) (c:Nat) (aR:c<=ops.size)
  (aS:c < ops.size->vF' ops c=true/\vG' ops c=true) (ao:kp' ops I.tmps.size=true)
  (ap:∀k o,ops[k]? =some o->(∀d,o.dst=some d->H k=d)/\(o.dst=none->∀j,wr ops (H k)=some j->bJ' ops k j=true))
  (hst:∀i j v w w',i≠j->bJ' ops j i=false->G j v w->Far (E i) w w'->(i=av->X w w')->G j v w')
  (aT:∀i o,i < c->ops[i]? =some o->∀a w,Far (fun b=>∃k,k≠i/\bJ' ops k i=false/\E k b) w0 w->tx' ops G I i o a w->
   if Region.wanted o (yielded ops a.tmps)=true then bM o a w (fun a' w'=>∃v,a'=a.put o.dst v/\Far (E i) w w'/\G i (if o.dst=none then a.tmps.getD (H i) undef else v) w'/\(i=av->X w w'))else G i (if o.dst=none then a.tmps.getD (H i) undef else undef) w)
  (aJ:∀a w L f,Far (fun b=>∃k,E k b) w0 w->(∀i o,i < c->ops[i]? =some o->G i (a.tmps.getD (H i) undef) w)->(∀t,(∀j,wr ops t=some j->c<=j)->a.tmps.getD t undef=I.tmps.getD t undef)->a.defers=I.defers->a.tmps.size=I.tmps.size->
   L.size=ops.size->(∀k,k < ops.size->L.getD k false=decide (k < c))->ops.size<=f+c->bO f L a w):
  ∀ (Z:Nat) (L:Array Bool) (a:Act) (w:World),ty' ops H G E I w0 c L a w->(List.range ops.size).countP (fun i=> !L.getD i false)<=Z->bO Z L a w:=by
 intro Z;induction Z with
 |zero=>
  intro L a w z aK;have O:∀k,k < ops.size->L.getD k false=true:=fun k hk=>by
   cases h:L.getD k false
   ·have:0 < (List.range ops.size).countP (fun i=> !L.getD i false):=List.countP_pos_iff.2 ⟨k,z87.2 hk,by simp only[h];rfl⟩;omega
   ·rfl
  have bg:ops.size<=c:=by
   rcases tZ' c ops.size with h|h
   ·have:=O c h;rw[z.un c (z13 _)]at this;cases this
   ·exact h
  exact aJ a w L 0 (z.ext.mono (fun b _ h=>h.imp fun k h=>h.2)) (fun i o hi F=>z.vals i o F (O i (by omega))) (fun t J=>z.rest t (fun j hj=>z.un j (J j hj))) z.defers z.tsize z.size (fun k hk=>by rw[O k hk];simp;omega) (by omega)
 |succ Z ih=>
  intro L a w z aK;by_cases ad:∀k,k < c->L.getD k false=true
  ·refine aJ a w L _ (z.ext.mono (fun b _ h=>h.imp fun k h=>h.2)) (fun i o hi F=>z.vals i o F (ad i hi)) (fun t J=>z.rest t (fun j hj=>z.un j (J j hj))) z.defers z.tsize z.size (fun k hk=>?_) ?_
   ·by_cases h:k < c
    ·rw[ad k h];simp[h]
    ·rw[z.un k (by omega)];simp[h]
   ·have:(List.range ops.size).countP (fun k=> !L.getD k false)=(List.range ops.size).countP (fun k=>decide (c<=k)):=by
     apply List.countP_congr;intro k hk;by_cases h:k < c
     ·rw[ad k h];simp;omega
     ·rw[z.un k (by omega)];simp;omega
    rw[this,fj' c ops.size aR]at aK;omega
  ·have aU:Region.ready .any ops L≠ []:=by
    intro aV;refine ad fun k hk=>?_;have O:∀n i,i < n->i < ops.size->L.getD i false=true:=by
     intro n;induction n with
     |zero=>intro i h;omega
     |succ n ih=>
      intro i h hi;by_cases aW:i < n
      ·exact ih i aW hi
      ·have e:i=n:=(by omega);subst e;cases aL:L.getD i false
       ·exfalso;have F:ops[i]? =some ops[i]:=z75 hi;have:i∈Region.ready .any ops L:=rY'.2 ⟨by
         have hs:i < L.size:=(by rw[z.size];exact hi);rw[z42,z75 hs]at aL ⊢;exact aL,ops[i],F,fun e ax hb=>by
         have aa:=(co' ao F).2.2 _ ((hy' F).2 ⟨e,ax,hb,rfl⟩);exact ih e.on aa (by omega)⟩
        rw[aV]at this;cases this
       ·rfl
    exact O ops.size k (by omega) (by omega)
   refine r.step aU fun i hi o F=>?_;obtain⟨h0,bh,aM,aX⟩:=rY'.1 hi;rw[F]at aM;cases aM;have aa:i < ops.size:=(z21.1 F).1;have ay:i < L.size:=(by rw[z.size];exact aa);have ah:L.getD i false=false:=(by rw[z42,z75 ay]at h0 ⊢;exact h0);obtain⟨hd,hl,bi⟩:=co' ao F;have aq:∀j,bJ' ops i j=true->L.getD j false=true:=(by intro j hj;obtain⟨e,ax,hb,rfl⟩:=(hy' F).1 hj;exact aX e ax hb);have aY:i < c:=by
    rcases tZ' i c with h|h
    ·exact h
    exfalso;obtain⟨aZ,ba⟩:=aS (by omega);by_cases bb:i=c
    ·subst bb;refine ad ?_;have O:∀n k,i<=k+n->k < i->L.getD k false=true:=by
      intro n;induction n with
      |zero=>intro k h1 h2;omega
      |succ n ih=>
       intro k h1 h2;obtain⟨j,hj,V⟩:=zd'.1 (nS'.1 aZ k (z87.2 h2));have az:j < i+1:=z87.1 hj;by_cases bc:j=i
       ·rw[bc]at V;exact aq k V
       ·have aa:k < j:=by
         cases Y:ops[j]? with
         |none=>unfold bJ' at V;rw[Y]at V;cases V
         |some aA=>exact(co' ao Y).2.2 k V
        exact z.closed j (ih j (by omega) (by omega)) k V
     exact fun k hk=>O i k (by omega) hk
    ·have:=nS'.1 ba i (z87.2 aa);simp only[Bool.or_eq_true,decide_eq_true_eq]at this;rcases this with h|h
     ·omega
     ·obtain⟨j,_,hd⟩:=zd'.1 h;simp only[Bool.and_eq_true,decide_eq_true_eq]at hd;have:=aq j hd.2;rw[z.un j hd.1]at this;cases this
   have bd:tx' ops G I i o a w:=by
    intro t J;cases M:wr ops t with
    |none=>exact z.rest t (fun j hj=>by rw[M]at hj;cases hj)
    |some j=>
     simp only[];have hj:=List.find?_some M;simp only[beq_iff_eq]at hj;split
     ·rename_i aB;cases au:ops[j]? with
      |none=>rw[au]at hj;cases hj
      |some aA=>rw[au]at hj;have aN:=z.vals j aA au (aq j aB);rw[(ap j aA au).1 t hj]at aN;exact aN
     ·rename_i aB;refine z.rest t (fun bj az=>?_);rw[M]at az;cases az;rcases(hl t J).2 j M with h|h
      ·exact absurd h aB
      ·cases aC:L.getD j false
       ·rfl
       ·have:=z.closed j aC i h;rw[ah]at this;cases this
   have aD:∀k,L.getD k false=true->k≠i/\bJ' ops k i=false:=by
    intro k h1;refine⟨fun e=>(by rw[e,ah]at h1;cases h1),?_⟩;cases ai:bJ' ops k i
    ·rfl
    ·have:=z.closed k h1 i ai;rw[ah]at this;cases this
   have aO:∀v w',Far (E i) w w'->(i=av->X w w')->G i (if o.dst=none then a.tmps.getD (H i) undef else v) w'->ty' ops H G E I w0 c (L.setIfInBounds i true) (a.put o.dst v) w':=by
    intro v w' hb aE ab;have ac:∀k,(L.setIfInBounds i true).getD k false=true↔ (k=i\/L.getD k false=true):=by
     intro k;by_cases hk:k=i
     ·subst hk;simp[Array.getD_eq_getD_getElem?,ay]
     ·rw[getD_set_ne false (fun e=>hk e.symm)];simp[hk]
    have aF:∀t,(a.put o.dst v).tmps.getD t undef=if o.dst=some t then v else a.tmps.getD t undef:=by
     intro t;cases aj:o.dst with
     |none=>simp[Act.put]
     |some d=>
      simp only[Act.put,Option.some.injEq];have be:d < a.tmps.size:=by rw[z.tsize];exact(hd d aj).1
      by_cases h:d=t
      ·subst h;simp[Array.getD_eq_getD_getElem?,be]
      ·simp[Array.getD_eq_getD_getElem?,h]
    refine⟨by simp[z.size],(z.ext.mono (fun b _ h=>by obtain⟨k,h1,h2⟩:=h;exact⟨k,(ac k).2 (.inr h1),h2⟩)).trans hb (fun b _ h=>⟨i,(ac i).2 (.inl rfl),h⟩),?_,?_,?_,?_,?_,fun k hk=>by rw[getD_set_ne false (by omega)];exact z.un k hk⟩
    ·intro k hk j hj;rw[ac]at hk ⊢;rcases hk with rfl|hk
     ·exact .inr (aq j hj)
     ·exact .inr (z.closed k hk j hj)
    ·intro k ok Y hk;rw[ac]at hk;rcases hk with rfl|hk
     ·rw[aF];cases aj:o.dst with
      |none=>rw[aj]at ab;simpa using ab
      |some d=>rw[aj]at ab;rw[(ap _ o F).1 d aj];simpa using ab
     ·obtain⟨ak,aG⟩:=aD k hk;have bf:=hst i k _ _ _ ak.symm aG (z.vals k ok Y hk) hb aE;have aH:o.dst≠some (H k):=by
       intro e;have h1:=(hd _ e).2;cases ai:ok.dst with
       |some d=>rw[(ap k ok Y).1 d ai,((co' ao Y).1 d ai).2]at h1;cases h1;exact ak rfl
       |none=>rw[(ap k ok Y).2 ai i h1]at aG;cases aG
      rw[aF,if_neg aH];exact bf
    ·intro t J;rw[aF];have aH:o.dst≠some t:=by intro e;have:=J i (hd t e).2;rw[(ac i).2 (.inl rfl)]at this;cases this
     rw[if_neg aH];refine z.rest t (fun j hj=>?_);cases aC:L.getD j false
     ·rfl
     ·have:=J j hj;rw[(ac j).2 (.inr aC)]at this;cases this
    ·cases o.dst <;> exact z.defers
    ·rw[<-z.tsize];cases o.dst <;> simp[Act.put]
   have aP:(List.range ops.size).countP (fun k=> !(L.setIfInBounds i true).getD k false)<=Z:=by
    have:=nc' (l:=List.range ops.size) (p:=fun k=> !L.getD k false) (q:=fun k=> !(L.setIfInBounds i true).getD k false)
     (fun k _ hk=>by
      by_cases ak:k=i
      ·subst ak;simp[ah]
      ·rw[getD_set_ne false (fun e=>ak e.symm)]at hk;exact hk)
     ⟨i,z87.2 aa,by simp[ah],by simp[Array.getD_eq_getD_getElem?,ay]⟩
    omega
   have aI:=aT i o aY F a w (z.ext.mono (fun b _ h=>by obtain⟨k,h1,h2⟩:=h;exact⟨k,(aD k h1).1,(aD k h1).2,h2⟩)) bd;split at aI
   ·rename_i M;rw[if_pos M];refine r.mono ?_ aI;rintro a' w' ⟨v,rfl,hb,ab,aE⟩;exact ih _ _ _ (aO v w' hb aE ab) aP
   ·rename_i M;rw[if_neg M];exact ih _ _ _ (aO undef w (Far.refl _ _) (fun _=>aQ w) aI) aP
def vH' (ops:Array Oper):List (List Nat):=
 (List.range ops.size).map fun i=>match ops[i]? with
  |some o=>(o.looksAt ops).map fun t=>match wr ops t with
    |some j=>if bJ' ops i j=true then 1000 * (j+1)+t else t
    |none=>t
  |none=>[]
abbrev Wd:=Value->World->Prop
abbrev Ev (c:Value):Wd:=fun v _=>v=c
abbrev Ep (p k:Nat):Wd:=fun v _=>v= .pointer (some ⟨p,k,none⟩)
abbrev Ei (n:Int):Wd:=fun v _=>v= .int .i64 n
abbrev Eb (b:Bool):Wd:=fun v _=>v= .bool b
abbrev Et:Wd:=fun _ _=>True
attribute [local simp, local go_sem] Ev Ep Ei Eb Et
def I' (L:List Wd) (a0 a:Act) (w:World):List Nat->Prop
 |[]=>True
 |c::r=>(if c < 1000 then a.tmps.getD c undef=a0.tmps.getD c undef else L.getD (c / 1000 - 1) (fun _ _=>True) (a.tmps.getD (c % 1000) undef) w)/\I' L a0 a w r
def bm' (z:Wd):Prop:=∀v w w',z v w->Below w.heap.size w w'->z v w'
theorem V' (c:Value):bm' (fun v _=>v=c):=fun _ _ _ h _=>h
theorem aj':bm' (fun _ _=>True):=fun _ _ _ _ _=>trivial
def aX':List Wd->Prop
 |[]=>True
 |z::r=>bm' z/\aX' r
variable{aT:List Wd}
theorem md' (h:aX' aT) (i:Nat):bm' (aT.getD i (fun _ _=>True)):=by
 induction aT generalizing i with
 |nil=>exact aj'
 |cons z r ih=>
  cases i with
  |zero=>exact h.1
  |succ i=>exact ih h.2 i
abbrev cT':=List (Nat× (Nat->Prop))
def eX' (Ws:cT') (i:Nat) (b:Nat):Prop:=∃p∈Ws,p.1=i/\p.2 b
def cG' (Ws:cT') (ops:Array Oper) (i:Nat) (b:Nat):Prop:=∃p∈Ws,p.1≠i/\bJ' ops p.1 i=false/\p.2 b
theorem cJ' {Ws:cT'} {ops:Array Oper} {i k:Nat} (h:∀p∈Ws,¬p.2 k):¬cG' Ws ops i k:=fun⟨p,z,_,_,h3⟩=>h p z h3
variable{D:Nat -> Prop}{B:Array Oper}
theorem ay' {i:Nat} (h:¬D a):¬cG' [(i,D)] B w a:=cJ' fun p z=>by rw[z51.1 z];exact h
theorem bD':¬cG' [(w,D)] B w a:=fun⟨_,z,h,_⟩=>h (by rw[z51.1 z])
variable{p u:World}
theorem es' {E:Nat->Prop} (h:Far (cG' [(w,E)] B w) p u):Below p.heap.size p u:=h.below (z13 _) (fun _ _=>bD')
theorem dM' {E:Nat->Prop} (h:Far (fun b=>∃z∈ [(w,E)],z.2 b) p u):Far E p u:=h.mono (fun k _ ⟨z,F,h⟩=>by rw[z51.1 F]at h;exact h)
theorem eY' {Ws:cT'} {ops:Array Oper} {i:Nat} {w z:World} (h:Far (cG' Ws ops i) w z) (hd:∀p∈Ws,bJ' ops p.1 i=true):Below w.heap.size w z:=
 h.below (z13 _) (fun _ _ ⟨p,F,_,h2,_⟩=>by rw[hd p F]at h2;cases h2)
variable{bL:cT'}
theorem an' (z:(w,D) ∈bL) (h:Far D p u):Far (eX' bL w) p u:=h.mono (fun _ _ hb=>⟨(w,D),z,rfl,hb⟩)
def bP' (E:Nat->Prop) (z:Wd):Prop:=∀v w w',z v w->Far E w w'->z v w'
theorem bj' (E:Nat->Prop) (c:Value):bP' E (fun v _=>v=c):=fun _ _ _ h _=>h
def nX' (E:Nat->Prop) (X:World->World->Prop) (z:Wd):Prop:=∀v w w',z v w->Far E w w'->X w w'->z v w'
variable{cM:World -> World -> Prop}{dU:Wd}
theorem dk' (h:bP' D dU):nX' D cM dU:=fun v w w' h1 h2 _=>h v w w' h1 h2
def dl' (ops:Array Oper) (i:Nat) (S:Wd->Prop):Nat->List Wd->Prop
 | _,[]=>True
 |j,z::r=>(i=j\/bJ' ops j i=true\/S z)/\dl' ops i S (j+1) r
def dm' (ops:Array Oper) (L:List Wd) (z:Nat) (X:World->World->Prop):cT'->Prop
 |[]=>True
 |p::r=>dl' ops p.1 (nX' p.2 (fun w w'=>p.1=z->X w w')) 0 L/\dm' ops L z X r
def ed' (ops:Array Oper) (L:List Wd):cT'->Prop
 |[]=>True
 |p::r=>dl' ops p.1 (bP' p.2) 0 L/\ed' ops L r
variable{cV:Wd -> Prop}
theorem gv' (z:cV (fun _ _=>True)):∀ {L:List Wd} {s:Nat},dl' B w cV s L->∀j,w≠s+j->bJ' B (s+j) w=false->cV (L.getD j (fun _ _=>True))
 |[],_,_,_,_,_=>by simpa using z
 |G::r,s,h,0,F,hd=>by
  rcases h.1 with h|h|h
  ·exact absurd h F
  ·rw[vu']at hd;rw[hd]at h;cases h
  ·exact h
 |G::r,s,h,j+1,F,hd=>by have:=gv' z (L:=r) (s:=s+1) h.2 j (by omega) (by rw[show s+1+j=s+(j+1) by omega];exact hd);simpa using this
variable{dV:Wd -> Prop}
theorem ft' (h:∀z,cV z->dV z):∀ {L:List Wd} {s:Nat},dl' B w cV s L->dl' B w dV s L
 |[],_,_=>trivial
 |z:: _,_,F=>⟨F.1.imp_right (·.imp_right (h z)),ft' h F.2⟩
theorem gw':∀ {Ws:cT'},ed' B aT Ws->dm' B aT w cM Ws
 |[],_=>trivial
 | _:: _,h=>⟨ft' (fun _=>dk') h.1,gw' h.2⟩
theorem fu':∀ {Ws:cT'},dm' B aT w cM Ws->∀p∈Ws,dl' B p.1 (nX' p.2 (fun F w'=>p.1=w->cM F w')) 0 aT
 |q::r,h,p,z=>by
  cases z with
  |head=>exact h.1
  |tail _ z=>exact fu' h.2 p z
def nd' (Ws:cT'):Bool:=decide ((Ws.map (·.1)).Nodup)
theorem ne':∀ {Ws:cT'},(Ws.map (·.1)).Nodup->∀p∈Ws,∀q∈Ws,p.1=q.1->p=q
 |x::r,h,p,z,q,F,e=>by
  rw[z48,xL']at h;rcases vw'.1 z with h1|h1 <;> rcases vw'.1 F with h2|h2
  ·rw[h1,h2]
  ·exact(h.1 (z63.2 ⟨q,h2,by rw[<-e,h1]⟩)).elim
  ·exact(h.1 (z63.2 ⟨p,h1,by rw[e,h2]⟩)).elim
  ·exact ne' h.2 p h1 q h2 e
def wf (f:Nat->Value):Nat->Value
 |0=>undef
 |d+1=>f d
def ag' (f:Nat->Value) (w:World):List Nat->List Wd->Prop
 |0::z,F::G=>F undef w/\ag' f w z G
 |(d+1)::z,F::G=>F (f d) w/\ag' f w z G
 | _,_=>True
variable{b:Nat -> Value}
theorem kr':∀ {D:List Nat} {L:List Wd},(∀i d,D[i]? =some d->L.getD i (fun _ _=>True) (wf b d) p)->ag' b p D L
 |[],_,_=>by simp[ag']
 |o::os,[],_=>by simp[ag']
 |o::os,H::z,h=>by have ih:=kr' (D:=os) (L:=z) (fun i F G=>by have:=h (i+1) F (by simpa using G);simpa using this);cases o <;> exact⟨h 0 _ rfl,ih⟩
def fw':List Nat->Nat->Bool
 |(_+1):: _,0=>false
 |(n+1)::rs,j+1=>fw' (n::rs) j
 |0::(_+1):: _,0=>true
 |0::(n+1)::rs,j+1=>fw' (0::n::rs) j
 |0::0::(n+1)::rs,j+1=>fw' (n::rs) j
 | _,_=>false
def O':List Nat->List Value->Nat->(Nat->Value)->List Value
 | _,[],_,_=>[]
 |(n+1)::rs,v::z,i,f=>v::O' (n::rs) z (i+1) f
 |0::(n+1)::rs,_::z,i,f=>f i::O' (0::n::rs) z (i+1) f
 |0::0::(n+1)::rs,v::z,i,f=>v::O' (n::rs) z (i+1) f
 | _,z,_,_=>z
theorem uk' (f:Nat->Value):∀ (G:List Nat) (F z:List Value) (i:Nat),z.length=F.length->(∀j,j < z.length->z.getD j undef=if fw' G j=true then f (i+j)else F.getD j undef)->O' G F i f=z:=by
 intro G F;induction F generalizing G with
 |nil=>intro z i h _;cases z <;> simp_all[O']
 |cons v F ih=>
  intro z i h1 h2;obtain _|⟨t,z⟩:=z
  ·simp at h1
  have h0:=h2 0 (by simp);have hs:∀H,(∀j,fw' G (j+1)=fw' H j)->O' H F (i+1) f=z:=fun H h=>ih H z (i+1) (by simpa using h1) (fun j hj=>by have:=h2 (j+1) (by simpa using hj);rw[h j]at this;simpa[Nat.add_assoc,Nat.add_comm 1 j]using this);have I:(∀j,fw' G j=false)->v::F=t::z:=fun h=>by apply List.ext_getElem (by simpa using h1.symm);intro k k1 k2;have:=h2 k k2;rw[h k]at this;simp only[List.getD_eq_getElem?_getD,List.getElem?_eq_getElem k1,List.getElem?_eq_getElem k2]at this;simpa using this.symm
  match G with
  |(n+1)::rs=>rw[O',hs (n::rs) (fun _=>rfl)];simp[fw']at h0;rw[h0]
  |0::(n+1)::rs=>rw[O',hs (0::n::rs) (fun _=>rfl)];simp[fw']at h0;rw[h0]
  |0::0::(n+1)::rs=>rw[O',hs (n::rs) (fun _=>rfl)];simp[fw']at h0;rw[h0]
  |[]|[0]|[0,0]|0::0::0:: _=>exact I (fun j=>by cases j <;> rfl)
def vI' (o:Oper):Tmp:=match o.op with
 | .store _ (.tmp t) _=>t
 | _=>1000
def ee' (key:Bool) (o:Oper):Nat:=match o.dst with
 |some d=>d
 |none=>if key=true then vI' o else 1000
def eZ' (key:Bool) (o:Oper):Nat:=match o.dst with
 |some d=>d+1
 |none=>if key=true then vI' o+1 else 0
def ix' (o:Oper) (a:Act) (v:Value):Value:=match o.dst with
 |some _=>v
 |none=>a.tmps.getD (vI' o) undef
def tz' (d:Option Tmp) (v:Value):Value:=match d with|some _=>v|none=>undef
def yP' (ops:Array Oper):Bool:=(List.range ops.size).all fun k=>match ops[k]? with
 |none=>true
 |some o=>match o.dst with
  |some _=>true
  |none=>match wr ops (vI' o)with
   |none=>true
   |some j=>bJ' ops k j
def fk' (ops:Array Oper) (size c:Nat) (key:Bool) (z:List (List Nat)) (D F:List Nat):Bool:=
 kp' ops size&&decide (size<=1000) &&decide (vH' ops=z) &&decide (ops.toList.map (eZ' key)=D) && ((List.range size).all fun t=>fw' F t== (wr ops t).isSome) &&decide (c<=ops.size) && (c==ops.size||vF' ops c&&vG' ops c) && (!key||yP' ops)
variable{dW:Nat -> Value -> World -> Prop}{dG:Act}
theorem hA' (G:∀j t v p,(ops[j]?.bind (·.dst))=some t->dW j v p->aT.getD j (fun _ _=>True) v p):
  ∀ (l:List Tmp),(∀t∈l,t < 1000)->(∀t∈l,match wr ops t with
   |some j=>if bJ' ops w j=true then dW j (dG.tmps.getD t undef) p else dG.tmps.getD t undef=I.tmps.getD t undef
   |none=>dG.tmps.getD t undef=I.tmps.getD t undef)->
  I' aT I dG p (l.map fun t=>match wr ops t with
    |some j=>if bJ' ops w j=true then 1000 * (j+1)+t else t
    |none=>t)
 |[],_,_=>trivial
 |t::l,h0,h=>by
  have h1:=h t (zc' ..);have z: @LT.lt Nat instLTNat t 1000:=h0 t (zc' ..);have h2:=hA' G l (fun t z=>h0 t (xH' _ z)) (fun t z=>h t (xH' _ z));simp only[List.map_cons];refine⟨?_,h2⟩;clear h2 h;cases F:wr ops t with
  |none=>rw[F]at h1;simp only[];rw[if_pos z];exact h1
  |some j=>
   rw[F]at h1;simp only[]at h1 ⊢;split
   ·rename_i hd;rw[if_pos hd]at h1;have hj:=List.find?_some F;simp only[beq_iff_eq]at hj;rw[if_neg (by omega),show(1000 * (j+1)+t) / 1000 - 1=j by omega,show(1000 * (j+1)+t) % 1000=t by omega];exact G j t _ _ hj h1
   ·rename_i hd;rw[if_neg hd]at h1;first|exact h1|(rw[if_pos z];exact h1)
variable{cW:List (List Nat)}{k bW:List Nat}
theorem ks' (r:kq' ops bM cP bO) {Ws:cT'} (H:Nat->Value->World->Prop) (key:Bool) (O:Nat) (X:World->World->Prop) (aj:∀w,X w w) (c:Nat)
  (ak:nd' Ws=true) (V:fk' ops I.tmps.size c key cW k bW=true) (hst:aX' aT) (ao:dm' ops aT O X Ws)
  (ap:∀j t v w,(ops[j]?.bind (·.dst))=some t->H j v w->aT.getD j (fun _ _=>True) v w)
  (aq:∀j (S:World->World->Prop),(∀v w w',aT.getD j (fun _ _=>True) v w->S w w'->aT.getD j (fun _ _=>True) v w')->∀v w w',H j v w->S w w'->H j v w')
  (au:∀i o ad,i < c->ops[i]? =some o->cW[i]? =some ad->∀a w,Far (cG' Ws ops i) p w->I' aT I a w ad->
   if Region.wanted o (yielded ops a.tmps)=true then bM o a w (fun a' w'=>∃v,a'=a.put o.dst v/\Far (eX' Ws i) w w'/\H i (if o.dst=none then a.tmps.getD (ee' key o) undef else v) w'/\(i=O->X w w'))else H i (if o.dst=none then a.tmps.getD (ee' key o) undef else undef) w)
  (av:∀f w K z,Far (fun b=>∃G∈Ws,G.2 b) p w->(∀i d,i < c->k[i]? =some d->H i (wf f d) w)->
   K.size=ops.size->(∀z,z < ops.size->K.getD z false=decide (z < c))->ops.size<=z+c->bO z K {tmps:=(O' bW I.tmps.toList 0 f).toArray,defers:=I.defers} w):
  bO ops.size (Array.replicate ops.size false) I {p with drawn:=p.drawn+1}:=by
 unfold fk' at V;simp only[Bool.and_eq_true,decide_eq_true_eq,Bool.or_eq_true,beq_iff_eq,Bool.not_eq_true']at V;obtain⟨⟨⟨⟨⟨⟨⟨Y,aM⟩,ax⟩,ay⟩,az⟩,aA⟩,aB⟩,aC⟩:=V;have ah:∀z,(Array.replicate ops.size false).getD z false=false:=fun z=>by rw[z42];by_cases hk:z < ops.size <;> simp[hk]
 have ai:∀ {z:Nat},(Array.replicate ops.size false).getD z false=true->False:=fun h=>by rw[ah]at h;cases h
 have Z:∀ (i:Nat) (o:Oper),ops[i]? =some o->((ops[i]?).map (ee' key)).getD 0=ee' key o:=fun i o F=>by rw[F];rfl
 refine xM' r (w0:=p) (fun i=>((ops[i]?).map (ee' key)).getD 0) H (eX' Ws) O X aj c aA (fun h=>aB.resolve_left (by omega)) Y ?_ ?_ ?_ ?_ ops.size _ I _
  ⟨by simp,C' ((z11 _ _).drew),fun z hk=>(ai hk).elim,fun i o _ hk=>(ai hk).elim,fun _ _=>rfl,rfl,rfl,fun z _=>ah z⟩ (z26 z89 (by simp))
 ·intro z o F;rw[Z z o F];refine⟨fun d hd=>by unfold ee';rw[hd],fun hd j hj=>?_⟩;unfold ee' at hj;rw[hd]at hj;simp only[]at hj;cases hk:key with
  |false=>
   rw[hk]at hj;have h1:=List.find?_some hj;simp only[beq_iff_eq]at h1;cases aa:ops[j]? with
   |none=>rw[aa]at h1;cases h1
   |some aN=>rw[aa]at h1;have:(1000:Nat) < I.tmps.size:=((co' Y aa).1 1000 (by simpa using h1)).1;omega
  |true=>rw[hk]at hj;have h2:yP' ops=true:=aC.resolve_left (by rw[hk];simp);have:=nS'.1 h2 z (z87.2 (z21.1 F).1);rw[F]at this;simp only[hd]at this;rw[if_pos rfl]at hj;rw[hj]at this;exact this
 ·intro i j v w w' aO hd J hF ab;refine aq j (fun w w'=>Far (eX' Ws i) w w'/\(i=O->X w w')) ?_ v w w' J ⟨hF,ab⟩;rintro v w w' J ⟨hF,ab⟩;by_cases hi:∃G∈Ws,G.1=i
  ·obtain⟨G,M,rfl⟩:=hi;exact gv' (fun _ _ _ _ _ _=>trivial) (fu' ao G M) j (by omega) (by rw[z44];exact hd) v w w' J (hF.mono (fun b _ h=>by obtain⟨q,ac,e,hb⟩:=h;rw[ne' (tX' ak) G M q ac e.symm];exact hb)) ab
  ·exact md' hst j v w w' J (hF.below (z13 _) (fun z _ h=>by obtain⟨q,ac,e,_⟩:=h;exact hi ⟨q,ac,e⟩))
 ·intro i o aD F a w hb aE;have aF:i < ops.size:=(z21.1 F).1;have aG:cW[i]? =some ((o.looksAt ops).map fun t=>match wr ops t with
     |some j=>if bJ' ops i j=true then 1000 * (j+1)+t else t
     |none=>t):=by
   rw[<-ax];unfold vH';rw[z70,List.getElem?_range aF,Option.map_some,F];try rfl
  have:=au i o _ aD F aG a w (hb.mono (fun b _ h=>by obtain⟨z,h1,h2,G,M,rfl,h3⟩:=h;exact⟨G,M,h1,h2,h3⟩)) (hA' ap _ (fun t aH=>((co' Y F).2.1 t aH).1) aE);rw[Z i o F];exact this
 ·intro a w K z hb J aI hd hs aJ aK aL;have e:O' bW I.tmps.toList 0 (fun t=>a.tmps.getD t undef)=a.tmps.toList:=by
   refine uk' _ _ _ _ _ (by simpa using hs) ?_;intro j hj;have hb:=nS'.1 az j (z87.2 (by rw[<-hs];simpa using hj));rw[vt']at hb;rw[z44,hb];split
   ·simp[Array.getD_eq_getD_getElem?,List.getD_eq_getElem?_getD]
   ·rename_i h;have:=aI j (fun z hk=>by rw[hk]at h;exact absurd rfl h);simpa[Array.getD_eq_getD_getElem?,List.getD_eq_getElem?_getD]using this
  have h:=av (fun t=>a.tmps.getD t undef) w K z (hb.mono (fun b _ h=>by
   obtain⟨z,G,M,_,h3⟩:=h;exact⟨G,M,h3⟩)) (fun i d hi hd=>by
   rw[<-ay,z70]at hd;cases F:ops[i]? with
   |none=>rw[show ops.toList[i]? =none by simpa using F]at hd;cases hd
   |some o=>
    rw[show ops.toList[i]? =some o by simpa using F]at hd;cases hd;have h1:=J i o hi F;rw[Z i o F]at h1;rw[show wf (fun t=>a.tmps.getD t undef) (eZ' key o)=a.tmps.getD (ee' key o) undef by
     unfold eZ' ee';cases o.dst
     ·cases key
      ·simp only[wf,Bool.false_eq_true,if_false];rw[z42,Array.getElem?_eq_none (by omega)];rfl
      ·rfl
     ·rfl]
    exact h1) aJ aK aL
  rw[e,<-hd]at h;exact h
theorem iy' {K:Array Bool} (h:∀k,k < ops.size->K.getD k false=true) (hs:K.size=ops.size):Region.ready .any ops K=[]:=by
 apply List.eq_nil_iff_forall_not_mem.2;intro i hi;obtain⟨h0,o,z,_⟩:=rY'.1 hi;have F:i < ops.size:=(z21.1 z).1;have:=h i F;rw[z42,z75 (by omega:i < K.size)]at this h0;have e:K[i]=true:=this;rw[e]at h0;cases h0
variable{q:Nat}
theorem vJ' (r:kq' ops bM cP bO) (z:ops[a]? =some N) (Z:kp' ops w=true) (aa:vG' ops a=true) {K:Array Bool} (h1:K.size=ops.size) (h2:∀q,q < ops.size->K.getD q false=decide (q < a)) (h3:ops.size<=q+a)
  (ab:Region.wanted N (yielded ops I.tmps)=true) (h:bM N I p (fun a' w'=>∀f,ops.size<=f+a+1->bO f (eW' a ops.size) a' w')):bO q K I p:=by
 have ac:a < ops.size:=(z21.1 z).1;obtain⟨G,rfl⟩:∃G,q=G+1:=⟨q - 1,by omega⟩;have hK:∀i,(hi:i < ops.size)->K.getD i true=decide (i < a):=fun i hi=>by have:=h2 i hi;rw[z42,z75 (by omega:i < K.size)]at this ⊢;exact this
 have J:a∈Region.ready .any ops K:=rY'.2 ⟨by rw[hK a ac];simp,N,z,fun e H hb=>by have:=(co' Z z).2.2 _ ((hy' z).2 ⟨e,H,hb,rfl⟩);rw[h2 _ (by omega)];simpa using this⟩;refine r.step (fun e=>by rw[e]at J;cases J) fun i hi o F=>?_;obtain⟨h0,ao,M,ad⟩:=rY'.1 hi;rw[F]at M;cases M;have O:i < ops.size:=(z21.1 F).1;obtain rfl:i=a:=by
  rw[hK i O]at h0;have ap:a<=i:=by simpa using h0
  have:=nS'.1 aa i (z87.2 O);simp only[Bool.or_eq_true,decide_eq_true_eq]at this;rcases this with h|h
  ·omega
  ·obtain⟨j,hj,hd⟩:=zd'.1 h;simp only[Bool.and_eq_true,decide_eq_true_eq]at hd;obtain⟨e,H,hb,rfl⟩:=(hy' F).1 hd.2;have h5:=ad e H hb;rw[h2 _ (z87.1 hj)]at h5;have:=tX' h5;omega
 rw[z]at F;cases F;rw[if_pos ab];refine r.mono ?_ h;intro a' w' ah;have ai:K.setIfInBounds i true=eW' i ops.size:=by
  apply Array.ext
  ·simp[eW',h1]
  ·intro j aq aj;have hj:j < ops.size:=by simpa[eW']using aj
   simp only[eW',List.getElem_toArray,List.getElem_map,List.getElem_range];have V:j < K.size:=by omega
   rw[Array.getElem_setIfInBounds (by exact V)];by_cases Y:i=j
   ·simp[Y]
   ·rw[if_neg Y];have ak:K.getD j false=K[j]:=(by rw[z42,z75 V];rfl);rw[<-ak,h2 j hj];exact rV'.2 (by omega)
 rw[ai];exact ah G (by omega)
def cU' (W:Oper->Act->World->(Act->World->Prop)->Prop) (ops:Array Oper) (L:List Wd) (a0:Act) (w0:World):List Oper->List (List Nat)->List Wd->Prop
 |o::os,F::G,z::H=>(∀a w,Below w0.heap.size w0 w->I' L a0 a w F->
   if Region.wanted o (yielded ops a.tmps)=true then W o a w (fun a' w'=>∃v,a'=a.put o.dst v/\Below w.heap.size w w'/\z v w')else z undef w)/\cU' W ops L a0 w0 os G H
 |[],_,_=>True
 | _,_,_=>False
theorem ji':∀ {os:List Oper} {G:List (List Nat)} {H:List Wd},cU' bM ops aT I p os G H->
  ∀ (i:Nat) o z,os[i]? =some o->G[i]? =some z->∀a w,Below p.heap.size p w->I' aT I a w z->
   if Region.wanted o (yielded ops a.tmps)=true then bM o a w (fun a' w'=>∃v,a'=a.put o.dst v/\Below w.heap.size w w'/\H.getD i (fun _ _=>True) v w')else H.getD i (fun _ _=>True) undef w
 |[],_,_,_,i,o,z,F,_=>by simp at F
 |o::os,[],_,h,_,_,_,_,_=>h.elim
 |o::os,z::G,[],h,_,_,_,_,_=>h.elim
 |o::os,z::G,O::H,h,0,M,pl',F,J=>by simp at F J;subst F;subst J;exact h.1
 |o::os,z::G,O::H,h,i+1,M,pl',F,J=>ji' h.2 i M pl' (by simpa using F) (by simpa using J)
def hB' (W:Oper->Act->World->(Act->World->Prop)->Prop) (ops:Array Oper) (L:List Wd) (Ws:cT') (a0:Act) (w0:World):Nat->List Oper->List (List Nat)->List Wd->Prop
 |i,o::os,F::G,z::H=>(∀a w,Far (cG' Ws ops i) w0 w->I' L a0 a w F->
   if Region.wanted o (yielded ops a.tmps)=true then W o a w (fun a' w'=>∃v,a'=a.put o.dst v/\Far (eX' Ws i) w w'/\z (tz' o.dst v) w')else z undef w)/\hB' W ops L Ws a0 w0 (i+1) os G H
 | _,[],_,_=>True
 | _,_,_,_=>False
theorem jj':∀ {s:Nat} {os:List Oper} {G:List (List Nat)} {H:List Wd},hB' bM ops aT bL I p s os G H->
  ∀ (i:Nat) o z,os[i]? =some o->G[i]? =some z->∀a w,Far (cG' bL ops (s+i)) p w->I' aT I a w z->
   if Region.wanted o (yielded ops a.tmps)=true then bM o a w (fun a' w'=>∃v,a'=a.put o.dst v/\Far (eX' bL (s+i)) w w'/\H.getD i (fun _ _=>True) (tz' o.dst v) w')else H.getD i (fun _ _=>True) undef w
 | _,[],_,_,_,i,o,z,F,_=>by simp at F
 | _,o::os,[],_,h,_,_,_,_,_=>h.elim
 | _,o::os,z::G,[],h,_,_,_,_,_=>h.elim
 | _,o::os,z::G,O::H,h,0,M,pl',F,J=>by simp at F J;subst F;subst J;exact h.1
 |s,o::os,z::G,O::H,h,i+1,M,pl',F,J=>by have:=jj' h.2 i M pl' (by simpa using F) (by simpa using J);rw[show s+1+i=s+(i+1) by omega]at this;simpa using this
def sd' (W:Oper->Act->World->(Act->World->Prop)->Prop) (ops:Array Oper) (L:List Wd) (Ws:cT') (z:Nat) (X:World->World->Prop) (a0:Act) (w0:World):Nat->List Oper->List (List Nat)->List Wd->Prop
 |i,o::os,G::H,F::I=>(∀a w,Far (cG' Ws ops i) w0 w->I' L a0 a w G->
   if Region.wanted o (yielded ops a.tmps)=true then W o a w (fun a' w'=>∃v,a'=a.put o.dst v/\Far (eX' Ws i) w w'/\F (ix' o a v) w'/\(i=z->X w w'))else F (ix' o a undef) w)/\sd' W ops L Ws z X a0 w0 (i+1) os H I
 | _,[],_,_=>True
 | _,_,_,_=>False
theorem kt':∀ {s:Nat} {os:List Oper} {H:List (List Nat)} {J:List Wd},sd' bM ops aT bL w cM I p s os H J->
  ∀ (i:Nat) o z,os[i]? =some o->H[i]? =some z->∀a F,Far (cG' bL ops (s+i)) p F->I' aT I a F z->
   if Region.wanted o (yielded ops a.tmps)=true then bM o a F (fun a' w'=>∃v,a'=a.put o.dst v/\Far (eX' bL (s+i)) F w'/\J.getD i (fun _ _=>True) (ix' o a v) w'/\(s+i=w->cM F w'))else J.getD i (fun _ _=>True) (ix' o a undef) F
 | _,[],_,_,_,i,o,z,G,_=>by simp at G
 | _,o::os,[],_,h,_,_,_,_,_=>h.elim
 | _,o::os,z::H,[],h,_,_,_,_,_=>h.elim
 | _,o::os,z::H,V::J,h,0,O,pl',G,M=>by simp at G M;subst G;subst M;exact h.1
 |s,o::os,z::H,V::J,h,i+1,O,pl',G,M=>by have:=kt' h.2 i O pl' (by simpa using G) (by simpa using M);rw[show s+1+i=s+(i+1) by omega]at this;simpa using this
section
variable {OW:Oper->Act->World->(Act->World->Prop)->Prop} {N:Act->World->Prop} {WA:Nat->Array Bool->Act->World->Prop} {a0:Act} {w0:World} {L:List Wd} {plan:List (List Nat)} {D M:List Nat} {Ws:cT'}
def cH' (ops:Array Oper) (size c:Nat) (plan:List (List Nat)) (D M:List Nat):Bool:=fk' ops size c false plan D M&& (D.take c).all fun d=>decide (0 < d)
theorem pq' (r:kq' ops OW N WA) (c:Nat) (z:cH' ops a0.tmps.size c plan D M=true) (hst:aX' L) (J:cU' OW ops L a0 w0 (ops.toList.take c) plan L)
  (O:∀f w K k,Below w0.heap.size w0 w->ag' f w (D.take c) L->K.size=ops.size->(∀k,k < ops.size->K.getD k false=decide (k < c))->ops.size<=k+c->WA k K {tmps:=(O' M a0.tmps.toList 0 f).toArray,defers:=a0.defers} w):
  WA ops.size (Array.replicate ops.size false) a0 {w0 with drawn:=w0.drawn+1}:=by
 unfold cH' at z;rw[z58]at z;obtain⟨z,V⟩:=z;have Y:ops.toList.map (eZ' false)=D:=by unfold fk' at z;simp only[Bool.and_eq_true,decide_eq_true_eq]at z;exact z.1.1.1.1.2
 refine ks' r (Ws:=[]) (fun i v w=>(ops[i]?.bind (·.dst))≠none->L.getD i (fun _ _=>True) v w) false 0 (fun _ _=>True) (fun _=>trivial) c rfl z hst trivial (fun j t v w h h1=>h1 (by rw[h];simp)) (fun j S h v w w' h1 h2 h3=>h v w w' (h1 h3) h2) ?_ ?_
 ·intro i o Z hi F aa a w hb ab;have:=ji' J i o Z (by rw[z69,if_pos hi];simpa using F) aa a w (hb.below (z13 _) (fun _ _ ⟨_,h,_⟩=>by cases h)) ab;have ac:(ops[i]?.bind (·.dst))=o.dst:=by rw[F];rfl
  rw[ac];split at this
  ·rename_i G;rw[if_pos G];exact r.mono (fun a' w' ⟨v,h1,h2,h3⟩=>⟨v,h1,C' h2,fun H=>(by rw[if_neg H];exact h3),fun _=>trivial⟩) this
  ·rename_i G;rw[if_neg G];exact fun H=>(by rw[if_neg H];exact this)
 ·intro f w K k hb G h1 h2 h3;refine O f w K k (hb.below (z13 _) (fun _ _ ⟨_,h,_⟩=>by cases h)) (kr' fun i d hd=>?_) h1 h2 h3;have hi:i < c:=by
   rcases tZ' i c with h|h
   ·exact h
   ·rw[z69,if_neg (by omega)]at hd;cases hd
  have ad:=hd;rw[z69,if_pos hi]at hd;refine G i d hi hd ?_;have I:0 < d:=by simpa using nS'.1 V d (z72 ad)
  rw[<-Y,z70]at hd;cases F:ops[i]? with
  |none=>rw[show ops.toList[i]? =none by simpa using F]at hd;cases hd
  |some o=>rw[show ops.toList[i]? =some o by simpa using F]at hd;cases hd;intro e;have e:o.dst=none:=e;unfold eZ' at I;rw[e]at I;simp at I
theorem pr' (r:kq' ops OW N WA) (key:Bool) (I:Nat) (X:World->World->Prop) (O:∀w,X w w) (F:Oper->Act->Value->Value) (V:∀o a v,F o a v=if o.dst=none then(if key=true then a.tmps.getD (vI' o) undef else undef)else v) (Y:nd' Ws=true) (G:fk' ops a0.tmps.size ops.size key plan D M=true) (hst:aX' L) (Z:dm' ops L I X Ws)
  (aa:∀ (i:Nat) o H,ops.toList[i]? =some o->plan[i]? =some H->∀a w,Far (cG' Ws ops (0+i)) w0 w->I' L a0 a w H->if Region.wanted o (yielded ops a.tmps)=true then OW o a w (fun a' w'=>∃v,a'=a.put o.dst v/\Far (eX' Ws (0+i)) w w'/\L.getD i (fun _ _=>True) (F o a v) w'/\(0+i=I->X w w'))else L.getD i (fun _ _=>True) (F o a undef) w)
  (ab:∀f w,Far (fun b=>∃p∈Ws,p.2 b) w0 w->ag' f w D L->N {tmps:=(O' M a0.tmps.toList 0 f).toArray,defers:=a0.defers} w):
  WA ops.size (Array.replicate ops.size false) a0 {w0 with drawn:=w0.drawn+1}:=by
 refine ks' r (fun i v w=>L.getD i (fun _ _=>True) (if key=false/\(ops[i]?.bind (·.dst))=none then undef else v) w) key I X O ops.size Y G hst Z (fun j t v w h h1=>by rw[h]at h1;simpa using h1) (fun j S h v w w' h1 h2=>h _ w w' h1 h2) ?_ ?_
 ·intro i o H hi z ac a w hb ad;have:=aa i o H (by simpa using z) ac a w (by rw[z44];exact hb) ad;rw[z44]at this;have J:(ops[i]?.bind (·.dst))=o.dst:=by rw[z];rfl
  have e:∀v,(if key=false/\o.dst=none then undef else if o.dst=none then a.tmps.getD (ee' key o) undef else v)=F o a v:=fun v=>by
   rw[V];by_cases h:o.dst=none
   ·cases key <;> simp[h,ee']
   ·simp[h]
  rw[J];simp only[e];exact this
 ·intro f w K k hb ah h1 h2 h3;refine r.done (iy' (fun k hk=>by rw[h2 k hk];simpa using hk) h1) (ab f w hb (kr' fun i d hd=>?_));have ai:ops.toList.map (eZ' key)=D:=by unfold fk' at G;simp only[Bool.and_eq_true,decide_eq_true_eq]at G;exact G.1.1.1.1.2
  have aj:=hd;rw[<-ai,z70]at hd;cases z:ops[i]? with
  |none=>rw[show ops.toList[i]? =none by simpa using z]at hd;cases hd
  |some o=>
   have hi:i < ops.size:=(z21.1 z).1;have:=ah i d hi aj;rw[show ops.toList[i]? =some o by simpa using z]at hd;cases hd;have J:(ops[i]?.bind (·.dst))=o.dst:=(by rw[z];rfl);rw[J]at this;split at this
   ·rename_i h;rw[show wf f (eZ' key o)=undef by rw[h.1];unfold eZ';rw[h.2];rfl];exact this
   ·exact this
theorem nf' (r:kq' ops OW N WA) (z:cH' ops a0.tmps.size ops.size plan D M=true) (hst:aX' L) (G:cU' OW ops L a0 w0 ops.toList plan L)
  (H:∀f w,Below w0.heap.size w0 w->ag' f w D L->N {tmps:=(O' M a0.tmps.toList 0 f).toArray,defers:=a0.defers} w):WA ops.size (Array.replicate ops.size false) a0 {w0 with drawn:=w0.drawn+1}:=by
 have I:ops.toList.map (eZ' false)=D:=by unfold cH' fk' at z;simp only[Bool.and_eq_true,decide_eq_true_eq]at z;exact z.1.1.1.1.1.2
 refine pq' r ops.size z hst (by rw[z46 (by simp)];exact G) fun f w K k hb F h1 h2 h3=>r.done (iy' (fun k hk=>by rw[h2 k hk];simpa using hk) h1) (H f w hb ?_);rw[z46 (by rw[<-I];simp)]at F;exact F
theorem tA' (r:kq' ops OW N WA) {last:Nat} {z:Oper} (F:ops[last]? =some z) (G:cH' ops a0.tmps.size last plan D M=true) (hst:aX' L) (J:cU' OW ops L a0 w0 (ops.toList.take last) plan L)
  (O:∀f w,ag' f w (D.take last) L->Region.wanted z (yielded ops (O' M a0.tmps.toList 0 f).toArray)=true)
  (V:∀f w,Below w0.heap.size w0 w->ag' f w (D.take last) L->OW z {tmps:=(O' M a0.tmps.toList 0 f).toArray,defers:=a0.defers} w (fun a' w'=>∀H,ops.size<=H+last+1->WA H (eW' last ops.size) a' w')):WA ops.size (Array.replicate ops.size false) a0 {w0 with drawn:=w0.drawn+1}:=by
 have h0:=G;unfold cH' fk' at h0;simp only[Bool.and_eq_true,decide_eq_true_eq,Bool.or_eq_true,beq_iff_eq]at h0;have hl:=(z21.1 F).1;exact pq' r last G hst J fun f w K k hb I h1 h2 h3=>vJ' r F h0.1.1.1.1.1.1.1.1 (h0.1.1.2.resolve_left (by omega)).2 h1 h2 h3 (O f w I) (V f w hb I)
theorem ps' (r:kq' ops OW N WA) {last:Nat} {z:Oper} (F:ops[last]? =some z) (G:z.guard=none) (hn:ops.size=last+1) (H:cH' ops a0.tmps.size last plan D M=true) (hst:aX' L) (I:cU' OW ops L a0 w0 (ops.toList.take last) plan L)
  (J:∀f w,Below w0.heap.size w0 w->ag' f w (D.take last) L->OW z {tmps:=(O' M a0.tmps.toList 0 f).toArray,defers:=a0.defers} w N):WA ops.size (Array.replicate ops.size false) a0 {w0 with drawn:=w0.drawn+1}:=
 tA' r F H hst I (fun _ _ _=>by simp[Region.wanted,G]) fun f w hb O=>r.mono (fun a' w' h V _=>r.done (iy' (fun k hk=>by rw[z42];simp[eW',hk];omega) (by simp[eW'])) h) (J f w hb O)
end
section
variable {id:Nat} {a0:Act} {w0:World} (L:List Wd) (plan:List (List Nat)) (D M:List Nat) (Ws:cT')
theorem ae' (z:cU' (fun o a w R=>o.wp P a w R Q) ops L a0 w0 ops.toList plan L)
  (F:∀f w,Below w0.heap.size w0 w->ag' f w D L->Q .normal {tmps:=(O' M a0.tmps.toList 0 f).toArray,defers:=a0.defers} w) (hst:aX' L:=by repeat' (first|exact V' _|exact aj'|exact trivial|apply z12)) (G:cH' ops a0.tmps.size ops.size plan D M=true:=by kernel_rfl) (H:P.follows .mixedOrders=true:=by kernel_rfl):
  (Code.region id ops true).wp P Q a0 w0:=vv' H (nf' hx' G hst z F)
theorem hC' (z:cU' (fun o a w R=>Oper.wpIn (Fence.wide.inRound lr) n P o a w R Q) ops L a0 w0 ops.toList plan L)
  (F:∀f w,Below w0.heap.size w0 w->ag' f w D L->Q .normal {tmps:=(O' M a0.tmps.toList 0 f).toArray,defers:=a0.defers} w) (hst:aX' L:=by repeat' (first|exact V' _|exact aj'|exact trivial|apply z12)) (G:cH' ops a0.tmps.size ops.size plan D M=true:=by kernel_rfl) (H:P.follows .mixedOrders=true:=by kernel_rfl):
  (Code.region id ops true).wpIn (Fence.wide.inRound lr) n P Q a0 w0:=wpIn_region_any H (nf' nW' G hst z F)
theorem ab' (last:Nat) (z:Oper) (F:ops[last]? =some z) (G:z.guard=none) (H:cU' (fun o a w R=>o.wp P a w R Q) ops L a0 w0 (ops.toList.take last) plan L)
  (I:∀f w,Below w0.heap.size w0 w->ag' f w (D.take last) L->z.wp P {tmps:=(O' M a0.tmps.toList 0 f).toArray,defers:=a0.defers} w (Q .normal) Q) (hst:aX' L:=by repeat' (first|exact V' _|exact aj'|exact trivial|apply z12)) (hn:ops.size=last+1:=by kernel_rfl) (J:cH' ops a0.tmps.size last plan D M=true:=by kernel_rfl) (O:P.follows .mixedOrders=true:=by kernel_rfl):
  (Code.region id ops true).wp P Q a0 w0:=vv' O (ps' hx' F G hn J hst H I)
theorem iz' (last:Nat) (z:Oper) (F:ops[last]? =some z) (G:z.guard=none) (H:cU' (fun o a w R=>Oper.wpIn (Fence.wide.inRound lr) n P o a w R Q) ops L a0 w0 (ops.toList.take last) plan L)
  (I:∀f w,Below w0.heap.size w0 w->ag' f w (D.take last) L->Oper.wpIn (Fence.wide.inRound lr) n P z {tmps:=(O' M a0.tmps.toList 0 f).toArray,defers:=a0.defers} w (Q .normal) Q) (hst:aX' L:=by repeat' (first|exact V' _|exact aj'|exact trivial|apply z12)) (hn:ops.size=last+1:=by kernel_rfl) (J:cH' ops a0.tmps.size last plan D M=true:=by kernel_rfl) (O:P.follows .mixedOrders=true:=by kernel_rfl):
  (Code.region id ops true).wpIn (Fence.wide.inRound lr) n P Q a0 w0:=wpIn_region_any O (ps' nW' F G hn J hst H I)
theorem bK' (last:Nat) (z:Oper) (G:ops[last]? =some z) (H:cU' (fun o a w R=>o.wp P a w R Q) ops L a0 w0 (ops.toList.take last) plan L)
  (I:∀f w,ag' f w (D.take last) L->Region.wanted z (yielded ops (O' M a0.tmps.toList 0 f).toArray)=true)
  (J:∀f w,Below w0.heap.size w0 w->ag' f w (D.take last) L->z.wp P {tmps:=(O' M a0.tmps.toList 0 f).toArray,defers:=a0.defers} w (fun a' w'=>∀F,ops.size<=F+last+1->wpAny P .any ops Q F (eW' last ops.size) a' w') Q) (hst:aX' L:=by repeat' (first|exact V' _|exact aj'|exact trivial|apply z12)) (O:cH' ops a0.tmps.size last plan D M=true:=by kernel_rfl) (V:P.follows .mixedOrders=true:=by kernel_rfl):
  (Code.region id ops true).wp P Q a0 w0:=vv' V (tA' hx' G O hst H I J)
theorem tB' (r:kq' ops bM cP bO) (hst:aX' aT) (hstF:ed' ops aT bL) (F:hB' bM ops aT bL a0 w0 0 ops.toList cW aT)
  (G:∀f w,Far (fun b=>∃p∈bL,p.2 b) w0 w->ag' f w k aT->cP {tmps:=(O' bW a0.tmps.toList 0 f).toArray,defers:=a0.defers} w) (H:nd' bL=true) (I:fk' ops a0.tmps.size ops.size false cW k bW=true):
  bO ops.size (Array.replicate ops.size false) a0 {w0 with drawn:=w0.drawn+1}:=
 pr' r false 0 (fun _ _=>True) (fun _=>trivial) (fun o _ v=>tz' o.dst v) (fun o _ v=>by cases h:o.dst <;> simp[tz']) H I hst (gw' hstF) (fun i o J h1 h2 a w h3 h4=>by
  have h5:=jj' F i o J h1 h2 a w h3 h4;split at h5
  ·rename_i z;rw[if_pos z];exact r.mono (fun a' w' ⟨v,O,V,Y⟩=>⟨v,O,V,Y,fun _=>trivial⟩) h5
  ·rename_i z;rw[if_neg z];cases h:o.dst <;> exact h5) G
theorem af' (z:hB' (fun o a w R=>o.wp P a w R Q) ops L Ws a0 w0 0 ops.toList plan L)
  (F:∀f w,Far (fun b=>∃p∈Ws,p.2 b) w0 w->ag' f w D L->Q .normal {tmps:=(O' M a0.tmps.toList 0 f).toArray,defers:=a0.defers} w) (hst:aX' L:=by repeat' (first|exact V' _|exact aj'|exact trivial|apply z12)) (hstF:ed' ops L Ws:=by repeat' (first|exact trivial|exact .inl rfl|exact .inr (.inr (bj' _ _))|exact .inr (.inr (fun _ _ _ _ _=>trivial))|apply z12)) (G:nd' Ws=true:=by kernel_rfl) (H:fk' ops a0.tmps.size ops.size false plan D M=true:=by kernel_rfl) (I:P.follows .mixedOrders=true:=by kernel_rfl):
  (Code.region id ops true).wp P Q a0 w0:=vv' I (tB' hx' hst hstF z F G H)
theorem iA' (z:hB' (fun o a w R=>Oper.wpIn (Fence.wide.inRound lr) n P o a w R Q) ops L Ws a0 w0 0 ops.toList plan L)
  (F:∀f w,Far (fun b=>∃p∈Ws,p.2 b) w0 w->ag' f w D L->Q .normal {tmps:=(O' M a0.tmps.toList 0 f).toArray,defers:=a0.defers} w) (hst:aX' L:=by repeat' (first|exact V' _|exact aj'|exact trivial|apply z12)) (hstF:ed' ops L Ws:=by repeat' (first|exact trivial|exact .inl rfl|exact .inr (.inr (bj' _ _))|exact .inr (.inr (fun _ _ _ _ _=>trivial))|apply z12)) (G:nd' Ws=true:=by kernel_rfl) (H:fk' ops a0.tmps.size ops.size false plan D M=true:=by kernel_rfl) (I:P.follows .mixedOrders=true:=by kernel_rfl):
  (Code.region id ops true).wpIn (Fence.wide.inRound lr) n P Q a0 w0:=wpIn_region_any I (tB' nW' hst hstF z F G H)
theorem me' (z:Nat) (X:World->World->Prop) (F:∀w,X w w) (G:sd' (fun o a w R=>o.wp P a w R Q) ops L Ws z X a0 w0 0 ops.toList plan L)
  (H:∀f w,Far (fun b=>∃p∈Ws,p.2 b) w0 w->ag' f w D L->Q .normal {tmps:=(O' M a0.tmps.toList 0 f).toArray,defers:=a0.defers} w) (hst:aX' L:=by repeat' (first|exact V' _|exact aj'|exact trivial|apply z12)) (hstF:dm' ops L z X Ws:=by trivial) (I:nd' Ws=true:=by kernel_rfl) (J:fk' ops a0.tmps.size ops.size true plan D M=true:=by kernel_rfl) (O:P.follows .mixedOrders=true:=by kernel_rfl):
  (Code.region id ops true).wp P Q a0 w0:=vv' O (pr' hx' true z X F ix' (fun o a v=>by cases h:o.dst <;> simp[ix',h]) I J hst hstF (fun i o V h1 h2=>kt' G i o V h1 h2) H)
end
variable{cG:Array Bool}
theorem aY' {i:Nat} (z:Region.ready .any ops cG=[i]) (F:ops[i]? =some N) (G:Region.wanted N (yielded ops I.tmps)=true)
  (h:N.wp P I p (fun a' w'=>wpAny P .any ops Q w (cG.setIfInBounds i true) a' w') Q):wpAny P .any ops Q (w+1) cG I p:=by
 refine⟨fun h0=>(by rw[z]at h0;cases h0),fun j hj=>?_⟩;rw[z,z51]at hj;subst hj;unfold wpOp;rw[F];simp only[];rw[if_pos (by simpa using G)];exact .inl h
variable{dO:Oper}
theorem ng' {i j:Nat} (z:Region.ready .any ops cG=[i,j]) (F:ops[i]? =some N) (G:ops[j]? =some dO) (H:Region.wanted N (yielded ops I.tmps)=true) (hw':Region.wanted dO (yielded ops I.tmps)=true)
  (h:N.wp P I p (fun a' w'=>wpAny P .any ops Q w (cG.setIfInBounds i true) a' w') Q) (J:dO.wp P I p (fun a' w'=>wpAny P .any ops Q w (cG.setIfInBounds j true) a' w') Q):wpAny P .any ops Q (w+1) cG I p:=by
 refine⟨fun h0=>(by rw[z]at h0;cases h0),fun k hk=>?_⟩;rw[z,vw',z51]at hk;unfold wpOp;rcases hk with rfl|rfl
 ·rw[F];simp only[];rw[if_pos (by simpa using H)];exact .inl h
 ·rw[G];simp only[];rw[if_pos (by simpa using hw')];exact .inl J
theorem cu' (z:Region.ready .any ops cG=[]) (h:Q .normal I p):wpAny P .any ops Q w cG I p:=wpAny_done z h _
end
def bh' (n:Int):z10:=⟨#[UInt8.ofNat (n.toNat % 256),UInt8.ofNat (n.toNat / 256 % 256),UInt8.ofNat (n.toNat / 65536 % 256),UInt8.ofNat (n.toNat / 16777216 % 256)]⟩
theorem ul' (n:Int):(bh' n).data.toList=Qb.le4 n:=rfl
theorem pt' {w:World} {l:List UInt8} {n:Nat} (hl:l.length=n):(convert 44 9 (.slice (some ⟨w.heap.size,0,none⟩) n n)).run prog (w.alloc (.cells (bv l).toArray 5))= .ok (.string ⟨l.toArray⟩) (w.alloc (.cells (bv l).toArray 5)):=by
 refine ec' hl (fun i hi=>?_);have:=aq' (w:=w) (l:=bv l) (e:=5) i _ (eb' (by omega));by_cases h:i=0
 ·subst h;simpa[Addr.add]using this
 ·simpa[Addr.add,h]using this
theorem ku' (n:Int) (w:World) (h0:0<=n):
  Calls prog 85 #[.int .i64 n] w fun r w'=>r= .returned (.string (bh' n))/\Below w.heap.size w w':=by
 have z:=pt' (w:=w) (l:=Qb.le4 n) (n:=4) rfl;rw[vy' h0]at z;have F:Hid ((⟨(Qb.le4 n).toArray⟩:z10)=bh' n):=rfl;go_enter func85,ntmps85;go_wp2;go_ret;exact⟨rfl,(z11 _ _).alloc (z13 _) _⟩
theorem mf' {n:Int} (h: -9223372036854775808<=n/\n<=9223372036854775807):wrap64 n=n:=by unfold wrap64;omega
variable{w a q r:Nat}
theorem zg' (z:w < 2 ^ 8) (hb:a < 2 ^ 8) (F:q < 2 ^ 8) (hd:r < 2 ^ 8):
  wrap64 (wrap64 (wrap64 (wrap64 (w:Int)+wrap64 (wrap64 (a:Int) * 256))+wrap64 (wrap64 (q:Int) * 65536))+wrap64 (wrap64 (r:Int) * 16777216))=(w:Int)+a * 256+q * 65536+r * 16777216:=by
 rw[mf' (n:=(w:Int)) (by omega),mf' (n:=(a:Int)) (by omega),mf' (n:=(q:Int)) (by omega),mf' (n:=(r:Int)) (by omega),mf' (n:=(a:Int) * 256) (by omega),mf' (n:=(q:Int) * 65536) (by omega),mf' (n:=(r:Int) * 16777216) (by omega),
  mf' (n:=(w:Int)+(a:Int) * 256) (by omega),mf' (n:=(w:Int)+(a:Int) * 256+(q:Int) * 65536) (by omega),mf' (by omega)]
theorem dw' (s:z10) (i:Nat) (w:World) (h:i+4<=s.size) (hs:s.size<=9223372036854775807):
  Calls prog 166 #[.string s, .int .i64 i] w fun r w'=>r= .returned (.int .i64 (Qb.Qg s.data.toList i))/\∃n,w'=w.drewN n:=by
 have g:∀j (hj:j < s.size),s.data.toList.getD j 0=s[j]:=by
  intro j hj;have hl:j < s.data.toList.length:=by simpa using hj
  rw[z17,z18 hl];rfl
 have z:i < s.size:=by omega
 have F:i+1 < s.size:=by omega
 have b2:i+2 < s.size:=by omega
 have b3:i+3 < s.size:=by omega
 have i0:(i:Int) < (s.size:Int):=by omega
 have H:(i:Int)+1 < (s.size:Int):=by omega
 have I:(i:Int)+2 < (s.size:Int):=by omega
 have i3:(i:Int)+3 < (s.size:Int):=by omega
 have J:IntKind.i64.wrap ((i:Int)+1)=(i:Int)+1:=by rw[z36];omega
 have M:IntKind.i64.wrap ((i:Int)+2)=(i:Int)+2:=by rw[z36];omega
 have O:IntKind.i64.wrap ((i:Int)+3)=(i:Int)+3:=by rw[z36];omega
 have Q:(0:Int)<=(i:Int)+1:=by omega
 have V:(0:Int)<=(i:Int)+2:=by omega
 have z3:(0:Int)<=(i:Int)+3:=by omega
 have G:Hid (Qb.Qg s.data.toList i=(s[i].toNat:Int)+s[i+1].toNat * 256+s[i+2].toNat * 65536+s[i+3].toNat * 16777216):=by show _= _;unfold Qb.Qg Qb.Vv;rw[g i z,g (i+1) F,g (i+2) b2,g (i+3) b3]
 clear g;go_enter func166,ntmps166;go_wp2;go_quiet (fail);go_wp2;go_ret;refine⟨dB' ?_,_,rfl⟩;have t0:=s[i].toNat_lt;have t1:=s[i+1].toNat_lt;have t2:=s[i+2].toNat_lt;have t3:=s[i+3].toNat_lt;rw[d' G];exact zg' t0 t1 t2 t3
def se' (x:Int) (v:Value) (w:World):Prop:=∃g,v= .slice (some ⟨g,0,none⟩) 1 1/\w.cell? ⟨g,0,none⟩=some (.int .u8 x)
theorem fx' (x:Int):bm' (se' x):=by
 rintro v w w' ⟨g,rfl,h⟩ hb;exact⟨g,rfl,(hb.cell (p:=⟨g,0,none⟩) (z66 _ _ h)).trans h⟩
def s1 (x:Int):z10:=⟨#[UInt8.ofNat (x.toNat % 256)]⟩
theorem tC' (x:Int):(s1 x).size=1:=rfl
theorem gd' (x:Int):(bh' x).size=4:=rfl
theorem fy' {n:Int} (h0:0<=n) (h1:n < 256) {v:Value} {w:World} (h:se' n v w):(convert 44 9 v).run prog w= .ok (.string (s1 n)) w:=by
 obtain⟨g,rfl,z⟩:=h;refine ec' (l:=[UInt8.ofNat (n.toNat % 256)]) rfl (fun i hi=>?_);have:i=0:=by simpa using hi
 subst this;have hb:=eU' h0 h1;simp[bv]at hb;simp[z,hb]
theorem u8w {n:Int} (h0:0<=n) (h1:n < 256):IntKind.u8.wrap n=n:=by simp[IntKind.wrap,IntKind.bits,IntKind.signed];omega
theorem um' (k e s q:Int) (b:z10):s1 k++bh' e++s1 s++bh' q++s1 (b.size:Int)++b=⟨(Qb.front k e s q b.data.toList).toArray⟩:=by
 apply tY';simp only[ByteArray.data_append];apply vx';simp[s1,bh',Qb.front,Qb.le4]
theorem bY' (k e s q:Int) (b:z10) (w:World) (M:Qb.proper k e s q b=true):
  Calls prog 51 #[.agg #[.int .i64 k, .int .i64 e, .int .i64 s, .int .i64 q, .string b]] w fun r w'=>r= .returned (.string ⟨(Qb.bytes k e s q b.data.toList).toArray⟩)/\Below w.heap.size w w':=by
 obtain⟨h1,h2,h3,h4,h5⟩:=cr' M;clear M;go_enter func51,ntmps51;go_upto_region 1 with fail;have F:=dX' w k e s q b 41;have ab:=u8w (n:=k) (by omega) (by omega);have ac:=u8w (n:=s) (by omega) (by omega);have ad:=u8w (n:=(b.size:Int)) (by omega) (by omega);have ah:=tC';have ai:(11:Int)+(b.size:Int)<=9223372036854775807:=by omega
 have aE:11+b.size<=9223372036854775807:=by omega
 have z4:=gd';have aj:=fun v w=>fy' (n:=k) (by omega) (by omega) (v:=v) (w:=w);have ak:=fun v w=>fy' (n:=s) (by omega) (by omega) (v:=v) (w:=w);have ao:=fun v w=>fy' (n:=(b.size:Int)) (by omega) (by omega) (v:=v) (w:=w);refine ae'
  [Ep w.heap.size 0,Ei k,Ev (.int .u8 k),se' k,Ev (.string (s1 k)),
   Ep w.heap.size 1,Ei e,Ev (.string (bh' e)),Ev (.string (s1 k++bh' e)),
   Ep w.heap.size 2,Ei s,Ev (.int .u8 s),se' s,Ev (.string (s1 s)),Ev (.string (s1 k++bh' e++s1 s)),
   Ep w.heap.size 3,Ei q,Ev (.string (bh' q)),Ev (.string (s1 k++bh' e++s1 s++bh' q)),
   Ep w.heap.size 4,Ev (.string b),Ei b.size,Ev (.int .u8 b.size),se' b.size,Ev (.string (s1 b.size)),Ev (.string (s1 k++bh' e++s1 s++bh' q++s1 b.size)),
   Ep w.heap.size 4,Ev (.string b),Ev (.string (s1 k++bh' e++s1 s++bh' q++s1 b.size++b)),Ev (.string (s1 k++bh' e++s1 s++bh' q++s1 b.size++b))]
  [[1],[1006],[2007],[3008],[4009],[1],[6011],[7012],[5010,8013],[1],[10015],[11016],[12017],[13018],[9014,14019],[1],[16021],[17022],[15020,18023],[1],[20025],[21026],[22027],[23028],[24029],[19024,25030],[1],[27032],[26031,28033],[29034]]
  [7,8,9,10,11,12,13,14,15,16,17,18,19,20,21,22,23,24,25,26,27,28,29,30,31,32,33,34,35,4]
  [3,1,2,29,999] ?_ ?_ (hst:=by repeat' (first|exact V' _|exact fx' _|exact trivial|apply z12))
 ·refine⟨?_,?_,?_,?_,?_,?_,?_,?_,?_,?_,?_,?_,?_,?_,?_,?_,?_,?_,?_,?_,?_,?_,?_,?_,?_,?_,?_,?_,?_,?_,trivial⟩;all_goals
   intro a x hb O;obtain⟨aF,aG,aH,aI,aJ⟩:=F.below hb (by simp);clear hb F;simp only[I',List.getD_cons_zero,List.getD_cons_succ,Array.getD_eq_getD_getElem?]at O;simp at O;try go_simp
   try exact z11 _ _
  all_goals first
   |exact⟨_,rfl,(z11 _ _).alloc (z13 _) _,_,rfl,by simp⟩
   |(refine(ku' _ _ ?_).mono ?_;(focus omega);rintro r w1 ⟨rfl,ap⟩;exact⟨rfl,ap⟩)
   |(rw[if_neg (by omega)];go_simp;exact z11 _ _)
 ·intro f aq hb G;simp only[ag']at G;have z:=G.2.2.2.2.2.2.2.2.2.2.2.2.2.2.2.2.2.2.2.2.2.2.2.2.2.2.2.2.2.1;rw[um']at z;have Q:=m' (((z11 w.heap.size w).alloc (z13 _) (.cells #[.int .i64 k, .int .i64 e, .int .i64 s, .int .i64 q, .string b] 41)).trans (hb.mono (by simp)));have H:(Qb.front k e s q b.data.toList).length=11+b.size:=by rw[Qb.Yf];simp
  clear G hb F ab ac ad ah z4 aj ak ao ai;have V:Hid (Qb.bytes k e s q b.data.toList=Qb.front k e s q b.data.toList++Qb.le4 (Qb.sum (Qb.front k e s q b.data.toList))):=rfl;generalize Qb.front k e s q b.data.toList=fr at z H V;simp only[O',z];clear z h1 h2 h3 h4;have Y:(ByteArray.mk fr.toArray).size=fr.length:=by simp[ByteArray.size]
  have au:=Qb.Ys fr;have Z:∀ (i:Nat) (h:i < (ByteArray.mk fr.toArray).size),(ByteArray.mk fr.toArray)[i]=fr.getD i 0:=by
   intro i h;have av:i < fr.length:=by omega
   simp only[List.getD_eq_getElem?_getD,List.getElem?_eq_getElem av];rfl
  have aa:=m' Z;have I:=m' Y;have ax:(ByteArray.mk fr.toArray).size<=31:=by omega
  clear Z Y;obtain⟨S,J⟩:=exq (ByteArray.mk fr.toArray);rw[<-J]at aa I ax ⊢;have ay:=m' J;have aK:=m' H;clear J H;go_wp2;go_loopw[4,5] (fun sm i wr=>wr=aq/\∃j:Nat,j<=S.size/\i= .int .i64 j/\sm= .int .i64 (Qb.sum (fr.take j))) (fun _ i _=>S.size - (intOf i).toNat)
  case atStart=>exact⟨rfl,0,z54 _,rfl,rfl⟩
  case round=>
   obtain⟨rfl,j,hj,rfl,rfl⟩:=hrel;by_cases az:j < S.size
   ·have aL:=Qb.Ys (fr.take j);have aM:S[j].toNat < 256:=S[j].toNat_lt;have aA:Hid (Qb.sum (fr.take (j+1))=(Qb.sum (fr.take j) * 31+(S[j].toNat:Int)) % 4294967296):=(by show _= _;rw[Qb.sum_take fr j (by have:=d' I;omega),d' aa j az];rfl);go_wp2;go_roundw
    case rel=>exact⟨by first|trivial|rfl,j+1,by omega,by go_num,by rw[d' aA]⟩
    case measure=>simp[intOf];omega
   ·have aB:Hid (fr.take j=fr):=z46 (by have:=d' I;omega);have aN:(bh' (Qb.sum fr)).size=4:=rfl;rw[d' aB];go_wp2_with (go_at_call 85;refine(ku' _ _ au.1).mono ?_;rintro r aO ⟨rfl,aC⟩);go_ret;have aD:=(d' Q).trans (aC.mono (d' Q).size);refine⟨?_,aD⟩;have e:S++bh' (Qb.sum fr)=⟨(Qb.bytes k e s q b.data.toList).toArray⟩:=(by rw[d' ay,d' V];apply tY';rw[z180];apply vx';simp[bh',Qb.le4]);rw[<-e];rfl
end Go.Proofs.YtamafdcnbcoegaaGreat
