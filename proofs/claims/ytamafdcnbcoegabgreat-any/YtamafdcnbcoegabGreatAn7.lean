/-
  Part 7 of a proof: K17, E1, E2, D18, D19.
-/
import Derived.Test.YtamafdcnbcoegabGreatAn6
namespace Go.Proofs.YtamafdcnbcoegabGreat
open Go.RowKit
theorem sinkEpoch_any {w:World} {p e:Nat} {logs:Nat→List ByteArray} {sh:Nat→List (Nat × Value)} {st:Mod.Stv} {c:Sv} (H:PkAt w p e logs sh st c) :
  Calls Tryz.prog 55 #[ptrTo p] w fun r w' => r = .returned (.int .i64 e)∧w' = w:=by
 have c1:w.cell? ⟨p,1,none⟩=some (.int .i64 e):=by rw [blk_cell H.ks.blk,H.ks.a1]
 clear H
 unfold ptrTo
 go_enter Tryz.func55,Tryz.ntmps55
 go_wp2
 go_ret
 exact ⟨rfl,rfl⟩
theorem cloneStrs_any {w:World} {v:Value} {l:List ByteArray} (h:RowO w 9 1 v l.length (strs l)) (hl:l.length ≤ 1000) :
  Calls Tryz.prog 72 #[v] w fun r w' => ∃ v',r = .returned v' ∧ w'.ownsRow w.heap.size 9 1 v' l.length (strs l)∧Below w.heap.size w w':=by
 obtain ⟨_,h2⟩:=h
 rcases h2 with ⟨rfl,hz⟩ | ⟨g,o,cap,cur,rfl,hh,hc,hm,hs,ht⟩
 ·obtain rfl:l = []:=List.length_eq_zero_iff.1 hz
  refine (Tryz.slices_Clone_string_nil 0 0 w).mono ?_
  rintro r y ⟨rfl,rfl⟩
  exact ⟨_,rfl,World.ownsRow_nil _ _ _ _,Below.refl _ _⟩
 ·refine (Tryz.slices_Clone_string g o l.length cap l w (Nat.le_refl _) (by omega) (fun j hj => ?_)).mono ?_
  ·have h0:((cur.toList.drop o).take (l.length * 1))[j]? = (strs l)[j]?:=by rw [ht]
   rw [List.getElem?_take,if_pos (by omega),List.getElem?_drop] at h0
   rw [blk_cell hh,← Array.getElem?_toList,h0]
   simp [strs,hj,List.getD_eq_getElem?_getD]
  ·rintro r y ⟨v',rfl,hr,_,hb⟩
   exact ⟨v',rfl,by rw [List.take_of_length_le (Nat.le_refl _)] at hr;exact hr,hb⟩
theorem zRecs_get:∀ (m j:Nat),j < m→(zRecs m)[j * 3]? = some (.int .i64 0)∧(zRecs m)[j * 3+1]? = some (.int .i64 0)∧(zRecs m)[j * 3+2]? = some (.string ⟨#[]⟩)
 | 0,j,h => by omega
 | m+1,j,h => by
  have hl:=length_zRecs m
  by_cases e:j < m
  ·obtain ⟨h0,h1,h2⟩:=zRecs_get m j e
   refine ⟨?_,?_,?_⟩
   all_goals
    unfold zRecs
    rw [List.getElem?_append_left (by omega)]
    assumption
  ·obtain rfl:j=m:=by omega
   refine ⟨?_,?_,?_⟩
   all_goals
    unfold zRecs
    rw [List.getElem?_append_right (by omega),hl]
    simp
end Go.Proofs.YtamafdcnbcoegabGreat
namespace Go.Proofs.YtamafdcnbcoegabGreat
namespace Mod
def sec (L:List UInt8) (k:Nat):List UInt8:=(L.drop (k * 64)).take 64
theorem length_sec {L:List UInt8} {k:Nat} (h:k * 64+64 ≤ L.length):(sec L k).length=64:=by
 simp [sec];omega
theorem sec_set {L s:List UInt8} {k:Nat} (hs:s.length=64) (hk:64 * k+64 ≤ L.length):sec (setSec L k s) k=s:=by
 unfold sec setSec
 have h1:(L.take (64 * k)).length=k * 64:=by simp;omega
 rw [List.append_assoc,List.drop_append_of_le_length (by omega),List.drop_of_length_le (by omega),List.nil_append,List.take_append_of_le_length (by omega),List.take_of_length_le (by omega)]
theorem sec_other {L s:List UInt8} {k j:Nat} (hs:s.length=64) (hk:64 * k+64 ≤ L.length) (h:j ≠ k):sec (setSec L k s) j=sec L j:=by
 unfold sec
 apply List.ext_getElem?
 intro i
 rw [List.getElem?_take,List.getElem?_take]
 split
 ·rename_i hi
  rw [List.getElem?_drop,List.getElem?_drop]
  unfold setSec
  rw [List.append_assoc]
  by_cases hjk:j < k
  ·rw [List.getElem?_append_left (by simp;omega),List.getElem?_take,if_pos (by omega)]
  ·have hl:(L.take (64 * k)).length=64 * k:=by simp;omega
   rw [List.getElem?_append_right (by omega),hl,List.getElem?_append_right (by omega),hs,List.getElem?_drop]
   congr 1
   omega
 ·rfl
def nought:List UInt8:=List.replicate 64 0
def opOf (S:List UInt8):Nat:=(Wire.numAt S 0).toNat
def ctOf (S:List UInt8):Nat:=(Wire.numAt S 4).toNat+(Wire.numAt S 8).toNat * 4294967296
theorem opOf_lt (S:List UInt8):opOf S < 4294967296:=by have:=Wire.numAt_range S 0;unfold opOf;omega
theorem ctOf_lt (S:List UInt8):ctOf S < 18446744073709551616:=by have:=Wire.numAt_range S 4;have:=Wire.numAt_range S 8;unfold ctOf;omega
structure Hd where
 o:Nat
 c:Nat
 a:Nat
 b:Nat
 d:Nat
def hd0:Hd:=⟨0,0,0,0,0⟩
def hdOf (S:List UInt8):Hd:=⟨opOf S,ctOf S,(Wire.numAt S 12).toNat,(Wire.numAt S 16).toNat,(Wire.numAt S 20).toNat⟩
def sealH (h:Hd):List UInt8:=sealB h.o h.c (headIn h.a h.b h.d)
def Hd.small (h:Hd):Bool:=decide (h.a ≤ 2147483647) && (decide (h.b ≤ 2147483647) && decide (h.d ≤ 2147483647))
def isStamp (o:Nat):Bool:=decide (1 ≤ o) && decide (o ≤ 1073741824)
def headOk (S:List UInt8):Bool:=decide (S=nought) || ((hdOf S).small && (isStamp (opOf S) && decide (sealH (hdOf S)=S)))
def headIs (S:List UInt8):Hd:=if S=nought then hd0 else hdOf S
theorem numAt_le4 {n:Nat} (h:n < 4294967296) (p q:List UInt8):Wire.numAt (p ++ (Wire.le4 (n:Int) ++ q)) p.length=n:=by
 unfold Wire.numAt Wire.le4
 have e:=Wire.num4_le4 (n:=(n:Int)) (by omega) (by omega)
 conv => rhs;rw [← e]
 congr 1 <;> simp [List.getD_eq_getElem?_getD]
theorem stamp_split (o c:Nat) (r:List UInt8):stampB o c ++ r=Wire.le4 (o:Int) ++ (Wire.le4 ((c % 4294967296:Nat):Int) ++ (Wire.le4 ((c / 4294967296:Nat):Int) ++ r)):=by
 unfold stampB;simp
theorem opOf_seal {o c:Nat} {ins:List UInt8} (ho:o < 4294967296):opOf (sealB o c ins)=o:=by
 unfold opOf sealB
 rw [List.append_assoc,stamp_split]
 have:=numAt_le4 ho [] (Wire.le4 ((c % 4294967296:Nat):Int) ++ (Wire.le4 ((c / 4294967296:Nat):Int) ++ ((ins ++ List.replicate (40 - ins.length) 0) ++ stampB o c)))
 simp only [List.nil_append,List.length_nil] at this
 rw [this]
 omega
theorem ctOf_seal {o c:Nat} {ins:List UInt8} (hc:c < 18446744073709551616):ctOf (sealB o c ins)=c:=by
 unfold ctOf sealB
 rw [List.append_assoc,stamp_split]
 have h1:=numAt_le4 (n:=c % 4294967296) (by omega) (Wire.le4 (o:Int)) (Wire.le4 ((c / 4294967296:Nat):Int) ++ ((ins ++ List.replicate (40 - ins.length) 0) ++ stampB o c))
 have h2:=numAt_le4 (n:=c / 4294967296) (by omega) (Wire.le4 (o:Int) ++ Wire.le4 ((c % 4294967296:Nat):Int)) ((ins ++ List.replicate (40 - ins.length) 0) ++ stampB o c)
 rw [Wire.length_le4] at h1
 rw [List.length_append,Wire.length_le4,Wire.length_le4,List.append_assoc] at h2
 rw [h1,h2]
 omega
theorem inside_at {o c n:Nat} {p q:List UInt8} (hn:n < 4294967296):Wire.numAt (sealB o c (p ++ (Wire.le4 (n:Int) ++ q))) (12+p.length)=n:=by
 unfold sealB
 have h:=numAt_le4 hn (stampB o c ++ p) (q ++ (List.replicate (40 - (p ++ (Wire.le4 (n:Int) ++ q)).length) 0 ++ stampB o c))
 have e:(stampB o c ++ p).length=12+p.length:=by rw [List.length_append,length_stampB]
 rw [e] at h
 conv => rhs;rw [← h]
 congr 1
 simp
theorem hdOf_seal {h:Hd} (ho:h.o < 4294967296) (hc:h.c < 18446744073709551616) (ha:h.a < 4294967296) (hb:h.b < 4294967296) (hd:h.d < 4294967296):hdOf (sealH h)=h:=by
 unfold hdOf sealH
 have e1:headIn h.a h.b h.d = [] ++ (Wire.le4 (h.a:Int) ++ (Wire.le4 (h.b:Int) ++ Wire.le4 (h.d:Int))):=by unfold headIn;simp
 have e2:headIn h.a h.b h.d=Wire.le4 (h.a:Int) ++ (Wire.le4 (h.b:Int) ++ Wire.le4 (h.d:Int)):=by unfold headIn;simp
 have e3:headIn h.a h.b h.d=(Wire.le4 (h.a:Int) ++ Wire.le4 (h.b:Int)) ++ (Wire.le4 (h.d:Int) ++ []):=by unfold headIn;simp
 have f1:=inside_at (o:=h.o) (c:=h.c) (p:=[]) (q:=Wire.le4 (h.b:Int) ++ Wire.le4 (h.d:Int)) ha
 have f2:=inside_at (o:=h.o) (c:=h.c) (p:=Wire.le4 (h.a:Int)) (q:=Wire.le4 (h.d:Int)) hb
 have f3:=inside_at (o:=h.o) (c:=h.c) (p:=Wire.le4 (h.a:Int) ++ Wire.le4 (h.b:Int)) (q:=[]) hd
 rw [← e1] at f1
 rw [← e2,Wire.length_le4] at f2
 rw [← e3,List.length_append,Wire.length_le4,Wire.length_le4] at f3
 simp only [List.length_nil] at f1
 rw [opOf_seal ho,ctOf_seal hc,f1,f2,f3]
 simp
theorem length_sealH (h:Hd):(sealH h).length=64:=length_sealB _ _ (by rw [length_headIn];omega)
theorem opOf_nought:opOf nought=0:=by decide
theorem sealH_ne {h:Hd} (ho:1 ≤ h.o) (ho2:h.o < 4294967296):sealH h ≠ nought:=by
 intro e
 have:=opOf_seal (c:=h.c) (ins:=headIn h.a h.b h.d) ho2
 unfold sealH at e
 rw [e,opOf_nought] at this
 omega
theorem headOk_seal {h:Hd} (hs:isStamp h.o=true) (hc:h.c < 18446744073709551616) (hn:h.small=true):headOk (sealH h)=true∧headIs (sealH h)=h:=by
 have ho:1 ≤ h.o∧h.o ≤ 1073741824:=by simpa [isStamp] using hs
 have hb:h.a ≤ 2147483647∧h.b ≤ 2147483647∧h.d ≤ 2147483647:=by simpa [Hd.small] using hn
 have e:=hdOf_seal (h:=h) (by omega) hc (by omega) (by omega) (by omega)
 have e0:=opOf_seal (c:=h.c) (ins:=headIn h.a h.b h.d) (o:=h.o) (by omega)
 refine ⟨?_,?_⟩
 ·unfold headOk
  rw [e,hn]
  rw [show opOf (sealH h)=h.o from e0,hs]
  simp
 ·unfold headIs
  rw [if_neg (sealH_ne ho.1 (by omega)),e]
theorem headOk_nought:headOk nought=true∧headIs nought=hd0:=by simp [headOk,headIs]
theorem headOk_some {S:List UInt8} (h:headOk S=true):(S=nought∧headIs S=hd0) ∨ (isStamp (headIs S).o=true∧(headIs S).c < 18446744073709551616∧(headIs S).small=true∧S=sealH (headIs S)):=by
 unfold headOk at h
 by_cases e:S=nought
 ·exact .inl ⟨e,by unfold headIs;rw [if_pos e]⟩
 ·right
  have h':(hdOf S).small=true∧isStamp (opOf S)=true∧sealH (hdOf S)=S:=by simpa [e] using h
  unfold headIs
  rw [if_neg e]
  exact ⟨h'.2.1,ctOf_lt S,h'.1,h'.2.2.symm⟩
def newer2 (h g:Hd):Bool:=if h.o ≠ g.o then decide (g.o < h.o) else decide (g.c < h.c)
def newest (L:List UInt8):Option (Hd × Nat) :=
 if headOk (sec L 0)=true∧headOk (sec L 1)=true then
  if newer2 (headIs (sec L 1)) (headIs (sec L 0))=true then some (headIs (sec L 1),1)
  else if newer2 (headIs (sec L 0)) (headIs (sec L 1))=true then some (headIs (sec L 0),0)
  else if (headIs (sec L 0)).o=0∧(headIs (sec L 1)).o=0 then some (hd0,0) else none
 else none
structure Rc where
 s:Nat
 q:Nat
 b:ByteArray
def rc0:Rc:=⟨0,0,⟨#[]⟩⟩
def lenOf (S:List UInt8):Nat:=(S.getD 13 0).toNat
def rcOf (S:List UInt8):Rc:=⟨(S.getD 12 0).toNat,(Wire.numAt S 14).toNat,⟨((S.drop 18).take (lenOf S)).toArray⟩⟩
def sealR (o c:Nat) (r:Rc):List UInt8:=sealB o c (recIn r.s r.q r.b.data.toList)
def recOk (S:List UInt8) (last:Nat):Bool :=
 decide (S=nought) || ((decide (lenOf S ≤ 20) && (decide ((rcOf S).s < 3) && (decide (1 ≤ (rcOf S).q) && decide ((rcOf S).q ≤ 2147483647)))) && (isStamp (opOf S) && (decide (opOf S ≤ last) && decide (sealR (opOf S) (ctOf S) (rcOf S)=S))))
def recIs (S:List UInt8):Rc:=if S=nought then rc0 else rcOf S
def Rc.fits (r:Rc):Prop:=r.s < 3∧1 ≤ r.q∧r.q ≤ 2147483647∧r.b.size ≤ 20
theorem len_b (b:ByteArray):b.data.toList.length=b.size:=Array.length_toList
theorem rcOf_seal {o c:Nat} {r:Rc} (hr:r.fits):rcOf (sealR o c r)=r∧lenOf (sealR o c r)=r.b.size:=by
 obtain ⟨h1,h2,h3,h4⟩:=hr
 have hl:=len_b r.b
 have e13:lenOf (sealR o c r)=r.b.size:=by
  unfold lenOf sealR sealB recIn
  rw [List.append_assoc,List.getD_eq_getElem?_getD,List.getElem?_append_right (by rw [length_stampB];omega),length_stampB]
  simp
  omega
 refine ⟨?_,e13⟩
 have e12:((sealR o c r).getD 12 0).toNat=r.s:=by
  unfold sealR sealB recIn
  rw [List.append_assoc,List.getD_eq_getElem?_getD,List.getElem?_append_right (by rw [length_stampB];omega),length_stampB]
  simp
  omega
 have e14:(Wire.numAt (sealR o c r) 14).toNat=r.q:=by
  have:=inside_at (o:=o) (c:=c) (p:=[UInt8.ofNat (r.s % 256),UInt8.ofNat (r.b.data.toList.length % 256)]) (q:=r.b.data.toList) (n:=r.q) (by omega)
  rw [← List.append_assoc] at this
  unfold sealR recIn
  rw [show (14:Nat)=12 + [UInt8.ofNat (r.s % 256),UInt8.ofNat (r.b.data.toList.length % 256)].length from rfl,this]
  rfl
 have e18:((sealR o c r).drop 18).take r.b.size=r.b.data.toList:=by
  have hd:(sealR o c r).drop 18=r.b.data.toList ++ (List.replicate (40 - (recIn r.s r.q r.b.data.toList).length) 0 ++ stampB o c):=by
   unfold sealR sealB
   have:stampB o c ++ (recIn r.s r.q r.b.data.toList ++ List.replicate (40 - (recIn r.s r.q r.b.data.toList).length) 0) ++ stampB o c
     = (stampB o c ++ ([UInt8.ofNat (r.s % 256),UInt8.ofNat (r.b.data.toList.length % 256)] ++ Wire.le4 (r.q:Int))) ++ (r.b.data.toList ++ (List.replicate (40 - (recIn r.s r.q r.b.data.toList).length) 0 ++ stampB o c)):=by
    conv => lhs;arg 1;arg 2;arg 1;unfold recIn
    simp
   rw [this]
   exact List.drop_left' (by simp [length_stampB,Wire.length_le4])
  rw [hd,List.take_append_of_le_length (by omega),List.take_of_length_le (by omega)]
 unfold rcOf
 rw [e12,e13,e14,e18]
theorem length_sealR {o c:Nat} {r:Rc} (hr:r.b.size ≤ 20):(sealR o c r).length=64 :=
 length_sealB _ _ (by rw [length_recIn,len_b];omega)
theorem sealR_ne {o c:Nat} {r:Rc} (ho:1 ≤ o) (ho2:o < 4294967296):sealR o c r ≠ nought:=by
 intro e
 have:=opOf_seal (c:=c) (ins:=recIn r.s r.q r.b.data.toList) ho2
 unfold sealR at e
 rw [e,opOf_nought] at this
 omega
def RecAt (S:List UInt8) (last:Nat) (r:Rc):Prop:=(S=nought∧r=rc0) ∨ ∃ o c,1 ≤ o∧o ≤ last∧o < 4294967296∧c < 18446744073709551616∧r.fits∧S=sealR o c r
theorem RecAt.up {S:List UInt8} {n m:Nat} {r:Rc} (h:RecAt S n r) (hm:n ≤ m):RecAt S m r:=by
 rcases h with h | ⟨o,c,h1,h2,h3⟩
 ·exact .inl h
 ·exact .inr ⟨o,c,h1,by omega,h3⟩
theorem recOk_at {S:List UInt8} {last:Nat} {r:Rc} (h:RecAt S last r) (hl:last ≤ 1073741824):recOk S last=true∧recIs S=r:=by
 rcases h with ⟨rfl,rfl⟩ | ⟨o,c,h1,h2,h3,h4,hr,rfl⟩
 ·simp [recOk,recIs]
 ·obtain ⟨e1,e2⟩:=rcOf_seal (o:=o) (c:=c) hr
  have e3:opOf (sealR o c r)=o:=opOf_seal h3
  have e4:ctOf (sealR o c r)=c:=ctOf_seal h4
  obtain ⟨g1,g2,g3,g4⟩:=hr
  refine ⟨?_,?_⟩
  ·unfold recOk
   rw [e1,e2,e3,e4]
   simp [isStamp]
   right
   omega
  ·unfold recIs
   rw [if_neg (sealR_ne h1 h3),e1]
theorem recAt_ok {S:List UInt8} {last:Nat} (h:recOk S last=true):RecAt S last (recIs S):=by
 unfold recOk at h
 by_cases e:S=nought
 ·exact .inl ⟨e,by unfold recIs;rw [if_pos e]⟩
 ·right
  have h':(lenOf S ≤ 20∧(rcOf S).s < 3∧1 ≤ (rcOf S).q∧(rcOf S).q ≤ 2147483647)∧isStamp (opOf S)=true∧opOf S ≤ last∧sealR (opOf S) (ctOf S) (rcOf S)=S:=by
   have:=h
   simp [e] at this
   omega
  obtain ⟨⟨g1,g2,g3,g4⟩,g5,g6,g7⟩:=h'
  have ho:1 ≤ opOf S∧opOf S ≤ 1073741824:=by simpa [isStamp] using g5
  unfold recIs
  rw [if_neg e]
  refine ⟨opOf S,ctOf S,ho.1,g6,by omega,ctOf_lt S,⟨g2,g3,g4,?_⟩,g7.symm⟩
  show (rcOf S).b.size ≤ 20
  simp [rcOf,ByteArray.size]
  omega
theorem recOk_small {S:List UInt8} {last:Nat} (h:recOk S last=true):(recIs S).s < 3∧(recIs S).q ≤ 2147483647∧(recIs S).b.size ≤ 20:=by
 rcases recAt_ok h with ⟨_,e⟩ | ⟨o,c,_,_,_,_,⟨h1,h2,h3,h4⟩,_⟩
 ·rw [e];simp [rc0,ByteArray.size]
 ·exact ⟨h1,h3,h4⟩
def recsFrom (L:List UInt8) (last:Nat):Nat→Nat→Option (List Rc)
 | _,0 => some []
 | x,n+1 => if recOk (sec L (2+x)) last=true then (recsFrom L last (x+1) n).map (recIs (sec L (2+x)) :: ·) else none
end Mod
end Go.Proofs.YtamafdcnbcoegabGreat
namespace Go.Proofs.YtamafdcnbcoegabGreat
namespace Mod
def Older (S:List UInt8) (op c:Nat):Prop:=S=nought ∨ ∃ h:Hd,1 ≤ h.o∧h.o ≤ op∧h.c < 18446744073709551616∧h.small=true∧(h.o < op ∨ h.c < c)∧S=sealH h
structure DiskOk (L:List UInt8) (op ct hd:Nat) (g:Nat→Nat) (m:Nat):Prop where
 len:L.length=m * 64
 two:2 ≤ m
 hd1:hd ≤ 1
 op1:1 ≤ op
 opm:op < 4294967296
 ctm:ct < 18446744073709551616
 sm:∀ i,i < 3→g i ≤ 2147483647
 hs:∃ c,c ≤ ct∧sec L hd=sealH ⟨op,c,g 0,g 1,g 2⟩∧Older (sec L (1 - hd)) op c
theorem newer2_of {h g:Hd} (H:g.o < h.o ∨ g.o=h.o∧g.c < h.c):newer2 h g=true∧newer2 g h=false:=by
 unfold newer2
 rcases H with H | ⟨H,H2⟩
 ·rw [if_pos (by omega),if_pos (by omega)];simp;omega
 ·rw [if_neg (by omega),if_neg (by omega)];simp;omega
theorem Older.head {S:List UInt8} {op c:Nat} (h:Older S op c) (hop:op ≤ 1073741824) (hop1:1 ≤ op):headOk S=true∧((headIs S).o < op ∨ (headIs S).o=op∧(headIs S).c < c):=by
 rcases h with rfl | ⟨h,h1,h2,h3,h4,h5,rfl⟩
 ·exact ⟨headOk_nought.1,.inl (by rw [headOk_nought.2];exact hop1)⟩
 ·have:=headOk_seal (h:=h) (by simp [isStamp];omega) h3 h4
  refine ⟨this.1,?_⟩
  rw [this.2]
  omega
theorem small_of {a b d:Nat} {o c:Nat} (ha:a ≤ 2147483647) (hb:b ≤ 2147483647) (hd:d ≤ 2147483647):Hd.small ⟨o,c,a,b,d⟩=true:=by simp [Hd.small];omega
theorem DiskOk.newest {L:List UInt8} {op ct hd:Nat} {g:Nat→Nat} {m:Nat} (h:DiskOk L op ct hd g m) (hop:op ≤ 1073741824):∃ c,newest L=some (⟨op,c,g 0,g 1,g 2⟩,hd):=by
 obtain ⟨c,h1,h2,h3⟩:=h.hs
 have s:=headOk_seal (h:=⟨op,c,g 0,g 1,g 2⟩) (by have:=h.op1;simp [isStamp];omega) (by have:=h.ctm;show c < _;omega) (small_of (h.sm 0 (by omega)) (h.sm 1 (by omega)) (h.sm 2 (by omega)))
 obtain ⟨o1,o2⟩:=h3.head hop h.op1
 refine ⟨c,?_⟩
 have hh:=h.hd1
 obtain rfl | rfl:hd=0 ∨ hd=1:=by omega
 ·have hn:=newer2_of (h:=⟨op,c,g 0,g 1,g 2⟩) (g:=headIs (sec L 1)) o2
  unfold Mod.newest
  rw [h2,s.1,s.2,show sec L 1=sec L (1 - 0) from rfl,o1]
  rw [if_pos ⟨rfl,rfl⟩,show headIs (sec L (1 - 0))=headIs (sec L 1) from rfl,hn.2,if_neg (by simp),hn.1,if_pos rfl]
 ·have hn:=newer2_of (h:=⟨op,c,g 0,g 1,g 2⟩) (g:=headIs (sec L 0)) o2
  unfold Mod.newest
  rw [h2,s.1,s.2,show sec L 0=sec L (1 - 1) from rfl,o1]
  rw [if_pos ⟨rfl,rfl⟩,show headIs (sec L (1 - 1))=headIs (sec L 0) from rfl,hn.1,if_pos rfl]
theorem DiskOk.numbers {L:List UInt8} {op ct hd:Nat} {g g':Nat→Nat} {m:Nat} (h:DiskOk L op ct hd g m) (hg:∀ i,i < 3→g' i ≤ 2147483647) (hct:ct+1 < 18446744073709551616) :
  DiskOk (setSec L (1 - hd) (sealH ⟨op,ct+1,g' 0,g' 1,g' 2⟩)) op (ct+1) (1 - hd) g' m:=by
 obtain ⟨c,h1,h2,h3⟩:=h.hs
 have hl:=h.len
 have htw:=h.two
 have hh:=h.hd1
 have hS:=length_sealH ⟨op,ct+1,g' 0,g' 1,g' 2⟩
 refine ⟨by rw [length_setSec hS (by omega)];exact hl,htw,by omega,h.op1,h.opm,hct,hg,ct+1,Nat.le_refl _,sec_set hS (by omega),?_⟩
 rw [sec_other hS (by omega) (by omega),show 1 - (1 - hd)=hd by omega,h2]
 exact .inr ⟨⟨op,c,g 0,g 1,g 2⟩,h.op1,Nat.le_refl _,by have:=h.ctm;show c < _;omega,small_of (h.sm 0 (by omega)) (h.sm 1 (by omega)) (h.sm 2 (by omega)),.inr (by show c < ct+1;omega),rfl⟩
theorem DiskOk.record {L:List UInt8} {op ct hd:Nat} {g:Nat→Nat} {m:Nat} (h:DiskOk L op ct hd g m) {x:Nat} {S:List UInt8} (hS:S.length=64) (hx:2+x < m) (hct:ct+1 < 18446744073709551616) :
  DiskOk (setSec L (2+x) S) op (ct+1) hd g m:=by
 obtain ⟨c,h1,h2,h3⟩:=h.hs
 have hl:=h.len
 have hh:=h.hd1
 refine ⟨by rw [length_setSec hS (by omega)];exact hl,h.two,hh,h.op1,h.opm,hct,h.sm,c,by omega,?_,?_⟩
 ·rw [sec_other hS (by omega) (by omega)];exact h2
 ·rw [sec_other hS (by omega) (by omega)];exact h3
theorem newest_some {L:List UInt8} {h:Hd} {at':Nat} (H:newest L=some (h,at')):at' ≤ 1∧headOk (sec L at')=true∧h=headIs (sec L at')∧headOk (sec L (1 - at'))=true:=by
 unfold newest at H
 split at H
 ·rename_i hk
  split at H
  ·cases H
   exact ⟨by omega,hk.2,rfl,hk.1⟩
  ·split at H
   ·cases H
    exact ⟨by omega,hk.1,rfl,hk.2⟩
   ·split at H
    ·rename_i h0
     cases H
     refine ⟨by omega,hk.1,?_,hk.2⟩
     rcases headOk_some hk.1 with ⟨_,e⟩ | ⟨e,_⟩
     ·exact e.symm
     ·rw [h0.1] at e;cases e
    ·cases H
 ·cases H
theorem headIs_small {S:List UInt8} (h:headOk S=true):(headIs S).o ≤ 1073741824∧(headIs S).c < 18446744073709551616∧(headIs S).a ≤ 2147483647∧(headIs S).b ≤ 2147483647∧(headIs S).d ≤ 2147483647:=by
 rcases headOk_some h with ⟨_,e⟩ | ⟨e1,e2,e3,_⟩
 ·rw [e];simp [hd0]
 ·have h1:1 ≤ (headIs S).o∧(headIs S).o ≤ 1073741824:=by simpa [isStamp] using e1
  have h2:(headIs S).a ≤ 2147483647∧(headIs S).b ≤ 2147483647∧(headIs S).d ≤ 2147483647:=by simpa [Hd.small] using e3
  exact ⟨h1.2,e2,h2⟩
def Hd.num (h:Hd) (i:Nat):Nat:=if i=0 then h.a else if i=1 then h.b else h.d
def openL (L:List UInt8) (h:Hd) (at':Nat):List UInt8:=setSec L (1 - at') (sealH ⟨h.o+1,1,h.a,h.b,h.d⟩)
theorem opened_ok {L:List UInt8} {h:Hd} {at' m:Nat} (H:newest L=some (h,at')) (hl:L.length=m * 64) (hm:2 ≤ m):DiskOk (openL L h at') (h.o+1) 1 (1 - at') h.num m:=by
 obtain ⟨h1,h2,rfl,h3⟩:=newest_some H
 have hs:=headIs_small h2
 have hS:=length_sealH ⟨(headIs (sec L at')).o+1,1,(headIs (sec L at')).a,(headIs (sec L at')).b,(headIs (sec L at')).d⟩
 refine ⟨by unfold openL;rw [length_setSec hS (by omega)];exact hl,hm,by omega,by omega,by omega,by omega,?_,1,Nat.le_refl _,sec_set hS (by omega),?_⟩
 ·intro i _
  unfold Hd.num
  split
  ·omega
  ·split <;> omega
 ·unfold openL
  rw [sec_other hS (by omega) (by omega),show 1 - (1 - at')=at' by omega]
  rcases headOk_some h2 with ⟨e,_⟩ | ⟨e1,e2,e3,e4⟩
  ·exact .inl e
  ·have h1:1 ≤ (headIs (sec L at')).o∧(headIs (sec L at')).o ≤ 1073741824:=by simpa [isStamp] using e1
   exact .inr ⟨_,h1.1,by omega,e2,e3,.inl (by omega),e4⟩
theorem openL_other {L:List UInt8} {h:Hd} {at' m:Nat} (hl:L.length=m * 64) (hm:2 ≤ m) {k:Nat} (hk:2 ≤ k):sec (openL L h at') k=sec L k:=by
 unfold openL
 exact sec_other (length_sealH _) (by omega) (by omega)
theorem recsFrom_at {L:List UInt8} {last:Nat} (hlast:last ≤ 1073741824) (r:Nat→Rc):∀ (n x:Nat),(∀ y,x ≤ y→y < x+n→RecAt (sec L (2+y)) last (r y))→recsFrom L last x n=some ((List.range n).map fun j => r (x+j))
 | 0,_,_ => rfl
 | n+1,x,h => by
  obtain ⟨h1,h2⟩:=recOk_at (h x (Nat.le_refl _) (by omega)) hlast
  have ih:=recsFrom_at hlast r n (x+1) (fun y hy hy2 => h y (by omega) (by omega))
  rw [recsFrom,if_pos h1,h2,ih,List.range_succ_eq_map]
  simp
  intro a _
  rw [Nat.add_assoc,Nat.add_comm 1 a]
theorem recsFrom_some {L:List UInt8} {last:Nat}:∀ (n x:Nat) {rs:List Rc},recsFrom L last x n=some rs→rs.length=n∧∀ y,y < n→recOk (sec L (2+(x+y))) last=true∧rs[y]? = some (recIs (sec L (2+(x+y))))
 | 0,_,rs,h => by cases h;exact ⟨rfl,fun y hy => by omega⟩
 | n+1,x,rs,h => by
  rw [recsFrom] at h
  split at h
  ·rename_i hk
   cases hr:recsFrom L last (x+1) n with
   | none => rw [hr] at h;cases h
   | some rs' =>
    rw [hr] at h
    cases h
    obtain ⟨i1,i2⟩:=recsFrom_some n (x+1) hr
    refine ⟨by simp [i1],fun y hy => ?_⟩
    cases y with
    | zero => exact ⟨hk,rfl⟩
    | succ y =>
     have:=i2 y (by omega)
     rw [show x+(y+1)=x+1+y by omega]
     exact ⟨this.1,by rw [List.getElem?_cons_succ];exact this.2⟩
  ·cases h
def openSt (L:List UInt8):Option (Hd × Nat × List Rc) :=
 match newest L with
 | none => none
 | some (h,at') => match recsFrom L h.o 0 (L.length / 64 - 2) with
  | none => none
  | some rs => some (h,at',rs)
theorem openSt_some {L:List UInt8} {h:Hd} {at':Nat} {rs:List Rc} (H:openSt L=some (h,at',rs)):newest L=some (h,at')∧recsFrom L h.o 0 (L.length / 64 - 2)=some rs:=by
 unfold openSt at H
 cases hn:newest L with
 | none => rw [hn] at H;cases H
 | some p =>
  obtain ⟨h',a'⟩:=p
  rw [hn] at H
  simp only at H
  cases hr:recsFrom L h'.o 0 (L.length / 64 - 2) with
  | none => rw [hr] at H;cases H
  | some rs' => rw [hr] at H;cases H;exact ⟨rfl,hr⟩
theorem openSt_of {L:List UInt8} {h:Hd} {at':Nat} {rs:List Rc} (h1:newest L=some (h,at')) (h2:recsFrom L h.o 0 (L.length / 64 - 2)=some rs):openSt L=some (h,at',rs):=by
 unfold openSt
 rw [h1]
 simp only
 rw [h2]
theorem DiskOk.opens {L:List UInt8} {op ct hd:Nat} {g:Nat→Nat} {m:Nat} (h:DiskOk L op ct hd g m) (hop:op ≤ 1073741824) (r:Nat→Rc) (hr:∀ x,x < m - 2→RecAt (sec L (2+x)) op (r x)) :
  ∃ c,openSt L=some (⟨op,c,g 0,g 1,g 2⟩,hd,(List.range (m - 2)).map r):=by
 obtain ⟨c,hn⟩:=h.newest hop
 refine ⟨c,openSt_of hn ?_⟩
 rw [show L.length / 64=m by have:=h.len;omega]
 have:=recsFrom_at (L:=L) hop r (m - 2) 0 (fun y _ hy => hr y (by omega))
 simpa using this
theorem nought_sec (n k:Nat) (h:k * 64+64 ≤ n):sec (List.replicate n 0) k=nought:=by
 unfold sec nought
 rw [List.drop_replicate,List.take_replicate]
 congr 1
 omega
theorem openSt_nought (m:Nat) (hm:2 ≤ m):openSt (List.replicate (m * 64) 0)=some (hd0,0,(List.range (m - 2)).map fun _ => rc0):=by
 have h0:=nought_sec (m * 64) 0 (by omega)
 have h1:=nought_sec (m * 64) 1 (by omega)
 have hn:newest (List.replicate (m * 64) 0)=some (hd0,0):=by
  unfold newest
  rw [h0,h1,headOk_nought.1,headOk_nought.2]
  rfl
 refine openSt_of hn ?_
 have:=recsFrom_at (L:=List.replicate (m * 64) 0) (last:=0) (by omega) (fun _ => rc0) (m - 2) 0 (fun y _ hy => .inl ⟨nought_sec _ _ (by omega),rfl⟩)
 rw [List.length_replicate,Nat.mul_div_cancel _ (by omega:0 < 64)]
 exact this
end Mod
end Go.Proofs.YtamafdcnbcoegabGreat
namespace Go.Proofs.YtamafdcnbcoegabGreat
open Go.RowKit
theorem size_stamp:(Tryz.prog.info? 188).map (·.size)=some 2:=by kernel_rfl
theorem number_sec (S:List UInt8) (hS:S.length=64) (g:Nat) (t:TypeId) (w:World) (h:w.heap[g]? = some (.cells (bv S).toArray t (0,0))) (i n cap:Nat) (hi:i+4 ≤ 64) (hn:4 ≤ n) :
  Calls Tryz.prog 109 #[.slice (some ⟨g,i,none⟩) n cap] w fun e w' => e = .returned (.int .u32 (Wire.numAt S i))∧Below w.heap.size w w':=by
 have hc:∀ j,j < 64→w.cell? ⟨g,j,none⟩=some (.int .u8 (S.getD j 0).toNat):=fun j hj => by
  rw [blk_cell h,bv_at (by omega)]
 refine (number_bytes g i n cap (S.getD i 0) (S.getD (i+1) 0) (S.getD (i+2) 0) (S.getD (i+3) 0) w hn (hc _ (by omega)) (hc _ (by omega)) (hc _ (by omega)) (hc _ (by omega))).mono ?_
 rintro r y ⟨rfl,k,rfl⟩
 exact ⟨rfl,below_drewN (Below.refl _ _) k⟩
theorem numAt_nat (S:List UInt8) (i:Nat):((Wire.numAt S i).toNat:Int)=Wire.numAt S i:=by have:=Wire.numAt_range S i;omega
theorem ctOf_int (S:List UInt8):(Mod.ctOf S:Int)=Wire.numAt S 4+Wire.numAt S 8 * 4294967296:=by
 unfold Mod.ctOf
 have:=numAt_nat S 4
 have:=numAt_nat S 8
 omega
theorem or_ct (S:List UInt8):bits BinOp.or IntKind.u64 (Wire.numAt S 4) (Wire.numAt S 8 * 4294967296)=(Mod.ctOf S:Int):=by
 have h1:=Wire.numAt_range S 4
 have h2:=Wire.numAt_range S 8
 rw [u64_or32 _ _ h1.1 h1.2 (by omega) (by omega) (by omega),ctOf_int]
set_option maxRecDepth 100000 in
set_option maxHeartbeats 1000000 in
theorem stampOf_any (S:List UInt8) (hS:S.length=64) (w:World) :
  Calls Tryz.prog 197 #[.agg (bv S).toArray] w fun r w' => r = .returned (.agg #[.int .u32 (Mod.opOf S),.int .u64 (Mod.ctOf S)])∧Below w.heap.size w w':=by
 have hN0:=fun (y:World) (h:y.heap[w.heap.size]? = some (.cells (bv S).toArray 214 (0,0))) => hide (number_sec S hS w.heap.size _ y h 0 64 64 (by omega) (by omega))
 have hN4:=fun (y:World) (h:y.heap[w.heap.size]? = some (.cells (bv S).toArray 214 (0,0))) => hide (number_sec S hS w.heap.size _ y h 4 60 60 (by omega) (by omega))
 have hN8:=fun (y:World) (h:y.heap[w.heap.size]? = some (.cells (bv S).toArray 214 (0,0))) => hide (number_sec S hS w.heap.size _ y h 8 56 56 (by omega) (by omega))
 have HO:=hide (or_ct S)
 have HP:Hid ((Mod.opOf S:Int)=Wire.numAt S 0):=numAt_nat S 0
 obtain ⟨ct,hct⟩:∃ ct,ct=Mod.ctOf S:=⟨_,rfl⟩
 obtain ⟨on,hon⟩:∃ on,on=Mod.opOf S:=⟨_,rfl⟩
 rw [← hct] at HO ⊢
 rw [← hon] at HP ⊢
 clear hct hon
 have b1:=Wire.numAt_range S 4
 have b2:=Wire.numAt_range S 8
 obtain ⟨b10,b11⟩:=b1
 obtain ⟨b20,b21⟩:=b2
 go_enter Tryz.func197,Tryz.ntmps197
 go_upto_region 1 with fail
 refine wp_world (fun x => x.heap[w.heap.size]? = some (.cells (bv S).toArray 214 (0,0))∧x.heap[w.heap.size+1]? = some (.cells #[.int .u32 0,.int .u64 0] 188 (0,0))∧Below w.heap.size w x) (alloc2 _ _ _) ?_
 rintro x ⟨h0,h1,hB⟩
 have hz:=lt_of_block h1
 have H0:=hide h0
 have H1:=hide h1
 have HB:=hide hB
 clear h0 h1 hB
 generalize hn0:Wire.numAt S 0=n0 at *
 generalize hn4:Wire.numAt S 4=n4 at *
 generalize hn8:Wire.numAt S 8=n8 at *
 have w4:IntKind.u64.wrap n4=n4:=by rw [IntKind.wrap_u64];omega
 have w8:IntKind.u64.wrap n8=n8:=by rw [IntKind.wrap_u64];omega
 have w9:IntKind.u64.wrap (n8 * 4294967296)=n8 * 4294967296:=by rw [IntKind.wrap_u64];omega
 refine wp_region_last (by kernel_rfl)
  [fun v _ => v = .slice (some ⟨w.heap.size,0,none⟩) 64 64,fun v _ => v = .int .u32 n0,fun v _ => v = .slice (some ⟨w.heap.size,4,none⟩) 60 60,fun v _ => v = .int .u32 n4,fun v _ => v = .int .u64 n4,
   fun v _ => v = .slice (some ⟨w.heap.size,8,none⟩) 56 56,fun v _ => v = .int .u32 n8,fun v _ => v = .int .u64 n8,fun v _ => v = .int .u64 (n8 * 4294967296),fun v _ => v = .int .u64 ct,fun v _ => v = .agg #[.int .u32 n0,.int .u64 ct],fun _ _ => True]
  [[(1,none)],[(3,some 0)],[(1,none)],[(5,some 2)],[(6,some 3)],[(1,none)],[(8,some 5)],[(9,some 6)],[(10,some 7)],[(7,some 4),(11,some 8)],[(4,some 1),(12,some 9)],[(2,none),(13,some 10)]] [some 3,some 4,some 5,some 6,some 7,some 8,some 9,some 10,some 11,some 12,some 13,none] [false,false,false,true,true,true,true,true,true,true,true,true,true,true]
  11 _ rfl rfl (by kernel_rfl) (by kernel_rfl) (by kernel_rfl) (by kernel_rfl) (by kernel_rfl) (by kernel_rfl) ?_ ?_ ?_
 ·repeat' (first | exact stable_eq _ | exact stable_true | exact trivial | apply And.intro)
 ·refine ⟨?_,?_,?_,?_,?_,?_,?_,?_,?_,?_,?_,trivial⟩
  all_goals
   intro a y hb hf
   have y0:=(hb.block _ (by omega:w.heap.size < x.heap.size)).trans (unhide H0)
   have HN0:=hN0 y y0
   have HN4:=hN4 y y0
   have HN8:=hN8 y y0
   clear hb y0 hN0 hN4 hN8
   simp only [PlanFacts,List.getD_cons_zero,List.getD_cons_succ,Array.getD_eq_getD_getElem?] at hf
   try simp at hf
  ·go_simp
   first | exact Below.refl _ _ | exact ⟨_,rfl,Below.refl _ _,rfl⟩
  ·go_simp
   refine (unhide HN0).mono ?_
   rintro r w1 ⟨rfl,hb1⟩
   first | exact hb1 | exact ⟨rfl,hb1⟩ | exact ⟨_,rfl,hb1,rfl⟩
  ·go_simp
   first | exact Below.refl _ _ | exact ⟨_,rfl,Below.refl _ _,rfl⟩
  ·go_simp
   refine (unhide HN4).mono ?_
   rintro r w1 ⟨rfl,hb1⟩
   first | exact hb1 | exact ⟨rfl,hb1⟩ | exact ⟨_,rfl,hb1,rfl⟩
  ·go_simp
   first | exact Below.refl _ _ | exact ⟨_,rfl,Below.refl _ _,rfl⟩
  ·go_simp
   first | exact Below.refl _ _ | exact ⟨_,rfl,Below.refl _ _,rfl⟩
  ·go_simp
   refine (unhide HN8).mono ?_
   rintro r w1 ⟨rfl,hb1⟩
   first | exact hb1 | exact ⟨rfl,hb1⟩ | exact ⟨_,rfl,hb1,rfl⟩
  ·go_simp
   first | exact Below.refl _ _ | exact ⟨_,rfl,Below.refl _ _,rfl⟩
  ·go_simp
   first | exact Below.refl _ _ | exact ⟨_,rfl,Below.refl _ _,rfl⟩
  ·go_simp
   first | exact ⟨by rw [unhide HO],Below.refl _ _⟩ | exact ⟨_,rfl,Below.refl _ _,by rw [← unhide HO]⟩
  ·go_simp
   first | exact Below.refl _ _ | exact ⟨_,rfl,Below.refl _ _,rfl⟩
 ·intro f y hby hwd
  simp only [AllWords,List.take] at hwd
  have h10:=hwd.2.2.2.2.2.2.2.2.2.2.1
  have y1:=(hby.block _ hz).trans (unhide H1)
  have HBY:=hide ((unhide HB).trans (hby.mono (unhide HB).size))
  clear hwd hby
  simp only [mergeT,h10]
  refine wp_store_row 188 (.tmp 2) (.tmp 13) rfl (w.heap.size+1) #[.int .u32 n0,.int .u64 ct] (by simp [Act.eval]) (by simp [Act.eval]) 188 _ y1 (by rw [size_stamp];rfl) (by simp) (by rw [Array.all_eq_true_iff_forall_mem];intro u hu;simp at hu;rcases hu with rfl | rfl <;> rfl) ?_
  have hz2:=setRow_heap y (w.heap.size+1) _ #[.int .u32 n0,.int .u64 ct] 188 (0,0) y1
  have HF:=hide (far_setRow y (w.heap.size+1) #[.int .u32 n0,.int .u64 ct])
  generalize f 3=x3
  generalize f 4=x4
  generalize f 5=x5
  generalize f 6=x6
  generalize f 7=x7
  generalize f 8=x8
  generalize f 9=x9
  generalize f 10=x10
  generalize f 11=x11
  generalize f 12=x12
  generalize y.setRow (w.heap.size+1) #[.int .u32 n0,.int .u64 ct] = z at *
  have q0:z.cell? ⟨w.heap.size+1,0,none⟩=some (.int .u32 n0):=blk_cell (i:=0) hz2
  have q1:z.cell? ⟨w.heap.size+1,1,none⟩=some (.int .u64 ct):=blk_cell (i:=1) hz2
  clear hz2 y1
  go_simp
  go_wp2
  refine bodyPost_ret (v:=.agg #[.int .u32 n0,.int .u64 ct]) (by simp [results,Tryz.results197,go_sem,q0,q1]) rfl ⟨by rw [unhide HP],?_⟩
  exact (unhide HBY).trans ((unhide HF).below (unhide HBY).size (fun k hk e => by omega))
end Go.Proofs.YtamafdcnbcoegabGreat
namespace Go.Proofs.YtamafdcnbcoegabGreat
open Go.RowKit
set_option maxHeartbeats 400000 in
theorem isStamp_any (o c:Nat) (w:World):Calls Tryz.prog 198 #[.agg #[.int .u32 o,.int .u64 c]] w fun r w' => r = .returned (.bool (Mod.isStamp o))∧Below w.heap.size w w':=by
 by_cases h1:(1:Int) ≤ (o:Int)
 ·by_cases h2:(o:Int) ≤ 1073741824
  ·go_enter Tryz.func198,Tryz.ntmps198
   go_wp2
   go_ret
   exact ⟨ret_b (by simp [Mod.isStamp];omega),(Below.refl _ _).alloc (Nat.le_refl _) _⟩
  ·go_enter Tryz.func198,Tryz.ntmps198
   go_wp2
   go_ret
   exact ⟨ret_b (by simp [Mod.isStamp];omega),(Below.refl _ _).alloc (Nat.le_refl _) _⟩
 ·go_enter Tryz.func198,Tryz.ntmps198
  go_wp2
  go_ret
  exact ⟨ret_b (by simp [Mod.isStamp];omega),(Below.refl _ _).alloc (Nat.le_refl _) _⟩
def hdVal (h:Mod.Hd):Value:=.agg #[.int .u32 h.o,.int .u64 h.c,.int .i64 h.a,.int .i64 h.b,.int .i64 h.d]
def hdK (o c a b d k:Nat):Array Value:=#[.int .u32 o,.int .u64 c,.int .i64 (if 0 < k then a else 0:Nat),.int .i64 (if 1 < k then b else 0:Nat),.int .i64 (if 2 < k then d else 0:Nat)]
theorem nought_zeros:Mod.nought=zeros:=rfl
set_option maxRecDepth 100000 in
set_option maxHeartbeats 4000000 in
theorem readHead_some (S:List UInt8) (hS:S.length=64) (hne:S ≠ zeros) (w:World):Calls Tryz.prog 159 #[.agg (bv S).toArray] w fun r w' =>
  ∃ h:Mod.Hd,r = .returned (.tuple #[hdVal h,.bool (Mod.headOk S)])∧(Mod.headOk S=true→h=Mod.hdOf S)∧Below w.heap.size w w':=by
 have heq:=fun y => eq_sec (S:=S) (T:=zeros) hS length_zeros y
 rw [decide_eq_false hne] at heq
 have hok:Mod.headOk S=((Mod.hdOf S).small && (Mod.isStamp (Mod.opOf S) && decide (Mod.sealH (Mod.hdOf S)=S))):=by
  unfold Mod.headOk
  rw [nought_zeros,decide_eq_false hne,Bool.false_or]
 have hN:=fun (i n cap:Nat) (hi:i+4 ≤ 64) (hn:4 ≤ n) (y:World) (h:y.heap[w.heap.size]? = some (.cells (bv S).toArray 214 (0,0))) => number_sec S hS w.heap.size _ y h i n cap hi hn
 have hN0:=fun y h => hide (hN 12 52 52 (by omega) (by omega) y h)
 have hN1:=fun y h => hide (hN 16 48 48 (by omega) (by omega) y h)
 have hN2:=fun y h => hide (hN 20 44 44 (by omega) (by omega) y h)
 rw [← numAt_nat S 12] at hN0
 rw [← numAt_nat S 16] at hN1
 rw [← numAt_nat S 20] at hN2
 have b0:=Wire.numAt_range S 12
 have b1:=Wire.numAt_range S 16
 have b2:=Wire.numAt_range S 20
 have hST:=fun y => hide (stampOf_any S hS y)
 have ho:=Mod.opOf_lt S
 have hc:=Mod.ctOf_lt S
 have hIS:=fun y => hide (isStamp_any (Mod.opOf S) (Mod.ctOf S) y)
 have hSH:=fun y => hide (sealHead_any (Mod.opOf S) (Mod.ctOf S) (Wire.numAt S 12).toNat (Wire.numAt S 16).toNat (Wire.numAt S 20).toNat y ho hc (by omega) (by omega) (by omega))
 have hLS:=Mod.length_sealH (Mod.hdOf S)
 have hEQ:=fun y => eq_sec (S:=Mod.sealH (Mod.hdOf S)) (T:=S) hLS hS y
 have hhd:Mod.hdOf S=⟨Mod.opOf S,Mod.ctOf S,(Wire.numAt S 12).toNat,(Wire.numAt S 16).toNat,(Wire.numAt S 20).toNat⟩:=rfl
 have hsm:(Mod.hdOf S).small=(decide ((Wire.numAt S 12).toNat ≤ 2147483647) && (decide ((Wire.numAt S 16).toNat ≤ 2147483647) && decide ((Wire.numAt S 20).toNat ≤ 2147483647))):=rfl
 rw [hsm] at hok
 have hSH2:∀ y,Hid (Calls Tryz.prog 164 #[hdVal (Mod.hdOf S)] y fun r w' => r = .returned (.agg (bv (Mod.sealH (Mod.hdOf S))).toArray)∧Below y.heap.size y w'):=hSH
 rw [hhd] at hSH2 hEQ ⊢
 unfold hdVal at hSH2
 simp only at hSH2
 have ha:(Wire.numAt S 12).toNat < 4294967296:=by omega
 have hb:(Wire.numAt S 16).toNat < 4294967296:=by omega
 have hd:(Wire.numAt S 20).toNat < 4294967296:=by omega
 rw [hhd] at hok
 clear hSH hN hhd hsm b0 b1 b2 hLS
 generalize (Wire.numAt S 12).toNat=a at *
 generalize (Wire.numAt S 16).toNat=b at *
 generalize (Wire.numAt S 20).toNat=d at *
 generalize Mod.opOf S=o at *
 generalize Mod.ctOf S=c at *
 obtain ⟨T,hT⟩:∃ T,T=Mod.sealH ⟨o,c,a,b,d⟩:=⟨_,rfl⟩
 rw [← hT] at hSH2 hEQ hok
 clear hT
 obtain ⟨ok,hok2⟩:∃ ok,ok=Mod.headOk S:=⟨_,rfl⟩
 rw [← hok2] at hok ⊢
 clear hok2
 have HOK:=hide hok
 clear hok hne ho hc
 go_enter Tryz.func159,Tryz.ntmps159
 go_upto_region 1 with fail
 refine wp_world (fun x => x.heap[w.heap.size]? = some (.cells (bv S).toArray 214 (0,0))∧x.heap[w.heap.size+1]? = some (.cells #[.int .u32 0,.int .u64 0,.int .i64 0,.int .i64 0,.int .i64 0] 199 (0,0))∧Below w.heap.size w x) (alloc2 _ _ _) ?_
 rintro x ⟨h0,h1,hB⟩
 have H0:=hide h0
 have H1:=hide h1
 have HB:=hide hB
 clear h0 h1 hB
 go_upto_region 4 with (first
  | (refine wpList_load_sec rfl (.tmp 1) rfl w.heap.size rfl 214 S hS (unhide H0) ?_)
  | (refine wpList_build_zero rfl rfl ?_;go_simp)
  | (go_at_call 197;refine (unhide (hST _)).mono ?_;rintro r y ⟨rfl,hb1⟩))
 have hz1:=hb1.size
 obtain ⟨g4,hg4⟩:∃ g4,g4=y.heap.size:=⟨_,rfl⟩
 rw [← hg4]
 have hg4x:w.heap.size+1 < g4:=by have:=lt_of_block (unhide H1);omega
 refine wp_world (fun x => x.heap[w.heap.size]? = some (.cells (bv S).toArray 214 (0,0))∧x.heap[w.heap.size+1]? = some (.cells #[.int .u32 0,.int .u64 0,.int .i64 0,.int .i64 0,.int .i64 0] 199 (0,0))∧x.heap[g4]? = some (.cells (hdK o c a b d 0) 199 (0,0))∧Below w.heap.size w x) ?_ ?_
 ·have l0:=lt_of_block (unhide H0)
  have l1:=lt_of_block (unhide H1)
  refine ⟨(hao _ _ (by omega)).trans ((hb1.block _ l0).trans (unhide H0)),(hao _ _ (by omega)).trans ((hb1.block _ l1).trans (unhide H1)),by rw [hg4];exact heap_alloc_new _ _,((unhide HB).trans (hb1.mono (unhide HB).size)).alloc (by omega) _⟩
 clear hb1 hz1 hg4 H0 H1 HB heq hST x
 rintro x ⟨h0,h1,h4,hB⟩
 have HX:=hide (And.intro h0 (And.intro h1 (And.intro h4 hB)))
 clear h0 h1 h4 hB y
 go_wp2
 go_loopw [5,6,14] (fun _ _ i wr => ∃ k:Nat,k ≤ 3∧i = .int .i64 k∧(wr.heap[w.heap.size]? = some (.cells (bv S).toArray 214 (0,0))∧wr.heap[w.heap.size+1]? = some (.cells #[.int .u32 0,.int .u64 0,.int .i64 0,.int .i64 0,.int .i64 0] 199 (0,0))∧wr.heap[g4]? = some (.cells (hdK o c a b d k) 199 (0,0))∧Below w.heap.size w wr)∧(0 < k→a ≤ 2147483647)∧(1 < k→b ≤ 2147483647)∧(2 < k→d ≤ 2147483647)) (fun _ _ i _ => 3 - (intOf i).toNat)
 case atStart => exact ⟨0,by omega,rfl,unhide HX,by omega,by omega,by omega⟩
 case round =>
  obtain ⟨k,hk,rfl,⟨h0,h1,h4,hB⟩,k0,k1,k2⟩:=hrel
  clear HX
  have hgl:=lt_of_block h4
  have f0:∀ i,wr.frozen? ⟨g4,i,none⟩=false:=fun i => blk_free h4
  have p0:∀ i,wr.frozen? ⟨w.heap.size+1,i,none⟩=false:=fun i => blk_free h1
  have l1:=lt_of_block h1
  have hno:∀ (n:Nat) (y:World),2147483647 < n→Below wr.heap.size wr y→Hid (y.heap[w.heap.size+1]? = some (.cells #[.int .u32 0,.int .u64 0,.int .i64 0,.int .i64 0,.int .i64 0] 199 (0,0))∧Below w.heap.size w y):=fun n y _ hb => ⟨(hb.block _ l1).trans h1,hB.trans (hb.mono hB.size)⟩
  have hyes:∀ (v:Value) (j:Nat) (y:World),wr.heap[g4]? = some (.cells (hdK o c a b d j) 199 (0,0))→(hdK o c a b d j).setIfInBounds (2+j) v=hdK o c a b d (j+1)→Below wr.heap.size wr y →
    (y.setCell ⟨g4,2+j,none⟩ v).heap[w.heap.size]? = some (.cells (bv S).toArray 214 (0,0))∧(y.setCell ⟨g4,2+j,none⟩ v).heap[w.heap.size+1]? = some (.cells #[.int .u32 0,.int .u64 0,.int .i64 0,.int .i64 0,.int .i64 0] 199 (0,0))∧(y.setCell ⟨g4,2+j,none⟩ v).heap[g4]? = some (.cells (hdK o c a b d (j+1)) 199 (0,0))∧Below w.heap.size w (y.setCell ⟨g4,2+j,none⟩ v):=by
   intro v j y h4 he hb
   have hs:=far_set y g4 (2+j) v
   refine ⟨hs.blk ((hb.block _ (by omega)).trans h0) (by omega),hs.blk ((hb.block _ (by omega)).trans h1) (by omega),?_,(hB.trans (hb.mono hB.size)).setCell (by show w.heap.size ≤ g4;omega) _⟩
   rw [← he]
   exact blk_set ((hb.block _ hgl).trans h4)
  obtain rfl | rfl | rfl | rfl:k=0 ∨ k=1 ∨ k=2 ∨ k=3:=by omega
  ·have hn:=hide (unhide (hN0 wr h0))
   by_cases hm:(2147483647:Int) < (a:Int)
   ·have HNO:=fun y hb => hno a y (by omega) hb
    have HH:=HOK
    clear h0 h4 hB f0 hN0 hN1 hN2 hno hyes h1 p0 hIS hSH2 hEQ HOK k0 k1 k2
    go_upto_region 8 with (go_at_call 109;refine (unhide hn).mono ?_;rintro r y ⟨rfl,hb1⟩)
    obtain ⟨y1,hBy⟩:=unhide (HNO y hb1)
    have HBY:=hide hBy
    have q0:=blk_cell (i:=0) y1
    have q1:=blk_cell (i:=1) y1
    have q2:=blk_cell (i:=2) y1
    have q3:=blk_cell (i:=3) y1
    have q4:=blk_cell (i:=4) y1
    have p0:∀ i,y.frozen? ⟨w.heap.size+1,i,none⟩=false:=fun i => blk_free y1
    simp at q0 q1 q2 q3 q4
    clear hb1 HNO y1 hBy hn
    go_wp2
    refine bodyPost_ret (v:=.tuple #[.agg #[.int .u32 0,.int .u64 0,.int .i64 0,.int .i64 0,.int .i64 0],.bool false]) (by simp [results,Tryz.results159,go_sem,q0,q1,q2,q3,q4]) rfl ⟨⟨0,0,0,0,0⟩,?_,fun h => ?_,?_⟩
    ·have:ok=false:=by
      rw [unhide HH,decide_eq_false (show ¬ a ≤ 2147483647 by omega)]
      simp
     rw [this]
     rfl
    ·have:ok=false:=by
      rw [unhide HH,decide_eq_false (show ¬ a ≤ 2147483647 by omega)]
      simp
     rw [this] at h
     cases h
    ·exact (((((unhide HBY).setCell (p:=⟨w.heap.size+1,0,none⟩) (by simp) _).setCell (p:=⟨w.heap.size+1,1,none⟩) (by simp) _).setCell (p:=⟨w.heap.size+1,2,none⟩) (by simp) _).setCell (p:=⟨w.heap.size+1,3,none⟩) (by simp) _).setCell (p:=⟨w.heap.size+1,4,none⟩) (by simp) _
   ·have HYES:=fun y hb => hide (hyes (.int .i64 a) 0 y h4 rfl hb)
    have HKK:=hide (And.intro k0 (And.intro k1 k2))
    have hm2:IntKind.i64.wrap (a:Int)=(a:Int):=by rw [IntKind.wrap_i64];omega
    clear h0 h1 hB p0 hN0 hN1 hN2 hno hyes hIS hSH2 hEQ HOK k0 k1 k2 f0
    go_upto_region 8 with (go_at_call 109;refine (unhide hn).mono ?_;rintro r y ⟨rfl,hb1⟩)
    have y4:=(hb1.block _ hgl).trans h4
    have f4:∀ i,y.frozen? ⟨g4,i,none⟩=false:=fun i => blk_free y4
    have cc:y.cell? ⟨g4,2,none⟩=some (.int .i64 0):=by rw [blk_cell y4];rfl
    have HY:=hide (unhide (HYES y hb1))
    clear h4 hb1 y4 HYES hn
    go_wp2
    go_roundw
    case rel => exact ⟨1,by omega,rfl,unhide HY,by first | omega | (intro _;exact (unhide HKK).1 (by omega)),by first | omega | (intro _;exact (unhide HKK).2.1 (by omega)),by first | omega | (intro _;exact (unhide HKK).2.2 (by omega))⟩
    case measure => simp [intOf]
  ·have hn:=hide (unhide (hN1 wr h0))
   by_cases hm:(2147483647:Int) < (b:Int)
   ·have HNO:=fun y hb => hno b y (by omega) hb
    have HH:=HOK
    clear h0 h4 hB f0 hN0 hN1 hN2 hno hyes h1 p0 hIS hSH2 hEQ HOK k0 k1 k2
    go_upto_region 8 with (go_at_call 109;refine (unhide hn).mono ?_;rintro r y ⟨rfl,hb1⟩)
    obtain ⟨y1,hBy⟩:=unhide (HNO y hb1)
    have HBY:=hide hBy
    have q0:=blk_cell (i:=0) y1
    have q1:=blk_cell (i:=1) y1
    have q2:=blk_cell (i:=2) y1
    have q3:=blk_cell (i:=3) y1
    have q4:=blk_cell (i:=4) y1
    have p0:∀ i,y.frozen? ⟨w.heap.size+1,i,none⟩=false:=fun i => blk_free y1
    simp at q0 q1 q2 q3 q4
    clear hb1 HNO y1 hBy hn
    go_wp2
    refine bodyPost_ret (v:=.tuple #[.agg #[.int .u32 0,.int .u64 0,.int .i64 0,.int .i64 0,.int .i64 0],.bool false]) (by simp [results,Tryz.results159,go_sem,q0,q1,q2,q3,q4]) rfl ⟨⟨0,0,0,0,0⟩,?_,fun h => ?_,?_⟩
    ·have:ok=false:=by
      rw [unhide HH,decide_eq_false (show ¬ b ≤ 2147483647 by omega)]
      simp
     rw [this]
     rfl
    ·have:ok=false:=by
      rw [unhide HH,decide_eq_false (show ¬ b ≤ 2147483647 by omega)]
      simp
     rw [this] at h
     cases h
    ·exact (((((unhide HBY).setCell (p:=⟨w.heap.size+1,0,none⟩) (by simp) _).setCell (p:=⟨w.heap.size+1,1,none⟩) (by simp) _).setCell (p:=⟨w.heap.size+1,2,none⟩) (by simp) _).setCell (p:=⟨w.heap.size+1,3,none⟩) (by simp) _).setCell (p:=⟨w.heap.size+1,4,none⟩) (by simp) _
   ·have HYES:=fun y hb => hide (hyes (.int .i64 b) 1 y h4 rfl hb)
    have HKK:=hide (And.intro k0 (And.intro k1 k2))
    have hm2:IntKind.i64.wrap (b:Int)=(b:Int):=by rw [IntKind.wrap_i64];omega
    clear h0 h1 hB p0 hN0 hN1 hN2 hno hyes hIS hSH2 hEQ HOK k0 k1 k2 f0
    go_upto_region 8 with (go_at_call 109;refine (unhide hn).mono ?_;rintro r y ⟨rfl,hb1⟩)
    have y4:=(hb1.block _ hgl).trans h4
    have f4:∀ i,y.frozen? ⟨g4,i,none⟩=false:=fun i => blk_free y4
    have cc:y.cell? ⟨g4,3,none⟩=some (.int .i64 0):=by rw [blk_cell y4];rfl
    have HY:=hide (unhide (HYES y hb1))
    clear h4 hb1 y4 HYES hn
    go_wp2
    go_roundw
    case rel => exact ⟨2,by omega,rfl,unhide HY,by first | omega | (intro _;exact (unhide HKK).1 (by omega)),by first | omega | (intro _;exact (unhide HKK).2.1 (by omega)),by first | omega | (intro _;exact (unhide HKK).2.2 (by omega))⟩
    case measure => simp [intOf]
  ·have hn:=hide (unhide (hN2 wr h0))
   by_cases hm:(2147483647:Int) < (d:Int)
   ·have HNO:=fun y hb => hno d y (by omega) hb
    have HH:=HOK
    clear h0 h4 hB f0 hN0 hN1 hN2 hno hyes h1 p0 hIS hSH2 hEQ HOK k0 k1 k2
    go_upto_region 8 with (go_at_call 109;refine (unhide hn).mono ?_;rintro r y ⟨rfl,hb1⟩)
    obtain ⟨y1,hBy⟩:=unhide (HNO y hb1)
    have HBY:=hide hBy
    have q0:=blk_cell (i:=0) y1
    have q1:=blk_cell (i:=1) y1
    have q2:=blk_cell (i:=2) y1
    have q3:=blk_cell (i:=3) y1
    have q4:=blk_cell (i:=4) y1
    have p0:∀ i,y.frozen? ⟨w.heap.size+1,i,none⟩=false:=fun i => blk_free y1
    simp at q0 q1 q2 q3 q4
    clear hb1 HNO y1 hBy hn
    go_wp2
    refine bodyPost_ret (v:=.tuple #[.agg #[.int .u32 0,.int .u64 0,.int .i64 0,.int .i64 0,.int .i64 0],.bool false]) (by simp [results,Tryz.results159,go_sem,q0,q1,q2,q3,q4]) rfl ⟨⟨0,0,0,0,0⟩,?_,fun h => ?_,?_⟩
    ·have:ok=false:=by
      rw [unhide HH,decide_eq_false (show ¬ d ≤ 2147483647 by omega)]
      simp
     rw [this]
     rfl
    ·have:ok=false:=by
      rw [unhide HH,decide_eq_false (show ¬ d ≤ 2147483647 by omega)]
      simp
     rw [this] at h
     cases h
    ·exact (((((unhide HBY).setCell (p:=⟨w.heap.size+1,0,none⟩) (by simp) _).setCell (p:=⟨w.heap.size+1,1,none⟩) (by simp) _).setCell (p:=⟨w.heap.size+1,2,none⟩) (by simp) _).setCell (p:=⟨w.heap.size+1,3,none⟩) (by simp) _).setCell (p:=⟨w.heap.size+1,4,none⟩) (by simp) _
   ·have HYES:=fun y hb => hide (hyes (.int .i64 d) 2 y h4 rfl hb)
    have HKK:=hide (And.intro k0 (And.intro k1 k2))
    have hm2:IntKind.i64.wrap (d:Int)=(d:Int):=by rw [IntKind.wrap_i64];omega
    clear h0 h1 hB p0 hN0 hN1 hN2 hno hyes hIS hSH2 hEQ HOK k0 k1 k2 f0
    go_upto_region 8 with (go_at_call 109;refine (unhide hn).mono ?_;rintro r y ⟨rfl,hb1⟩)
    have y4:=(hb1.block _ hgl).trans h4
    have f4:∀ i,y.frozen? ⟨g4,i,none⟩=false:=fun i => blk_free y4
    have cc:y.cell? ⟨g4,4,none⟩=some (.int .i64 0):=by rw [blk_cell y4];rfl
    have HY:=hide (unhide (HYES y hb1))
    clear h4 hb1 y4 HYES hn
    go_wp2
    go_roundw
    case rel => exact ⟨3,by omega,rfl,unhide HY,by first | omega | (intro _;exact (unhide HKK).1 (by omega)),by first | omega | (intro _;exact (unhide HKK).2.1 (by omega)),by first | omega | (intro _;exact (unhide HKK).2.2 (by omega))⟩
    case measure => simp [intOf]
  ·have H0:=hide h0
   have H1:=hide h1
   have H4:Hid (wr.heap[g4]? = some (.cells #[.int .u32 o,.int .u64 c,.int .i64 a,.int .i64 b,.int .i64 d] 199 (0,0))):=h4
   have HB:=hide hB
   have HKK:=hide (And.intro (k0 (by omega)) (And.intro (k1 (by omega)) (k2 (by omega))))
   clear h0 h1 h4 hB f0 p0 hN0 hN1 hN2 hno hyes k0 k1 k2
   go_upto_region 12 with fail
   cases his:Mod.isStamp o with
   | true =>
    refine wp_region_foot (by kernel_rfl)
     [fun v _ => v = .agg #[.int .u32 o,.int .u64 c,.int .i64 a,.int .i64 b,.int .i64 d],fun v _ => v = .pointer (some ⟨g4,0,none⟩),fun v _ => v = .agg #[.int .u32 o,.int .u64 c],fun v _ => v = .bool true,fun v _ => v = .bool true,
      fun v _ => v = .agg #[.int .u32 o,.int .u64 c,.int .i64 a,.int .i64 b,.int .i64 d],fun v _ => v = .agg (bv T).toArray,fun v _ => v = .agg (bv S).toArray,fun v _ => v = .bool (decide (T=S)),fun v _ => v = .bool (decide (T=S)),fun _ z => z.heap[w.heap.size+1]? = some (.cells #[.int .u32 o,.int .u64 c,.int .i64 a,.int .i64 b,.int .i64 d] 199 (0,0)),fun v _ => v = .bool (decide (T=S))]
     [[(4,none)],[(4,none)],[(32,some 1)],[(33,some 2)],[(34,some 3)],[(4,none),(35,some 4)],[(36,some 5),(35,some 4)],[(1,none),(35,some 4)],[(37,some 6),(38,some 7),(35,some 4)],[(35,some 4),(39,some 8)],[(2,none),(31,some 0)],[(40,some 9)]] [some 31,some 32,some 33,some 34,some 35,some 36,some 37,some 38,some 39,some 40,none,some 3] [false,false,false,true,false,false,false,false,false,false,false,false,false,false,false,false,false,false,false,false,false,false,false,false,false,false,false,false,false,false,false,true,true,true,true,true,true,true,true,true,true]
     [(10,fun k => k=w.heap.size+1)]
     (by kernel_rfl) (by kernel_rfl) (by kernel_rfl) (by kernel_rfl) (by kernel_rfl) ?_ ?_ ?_ ?_
    ·repeat' (first | exact stable_eq _ | exact stable_true | exact stable_blk _ _ | exact trivial | apply And.intro)
    ·repeat' (first | exact trivial | exact .inl rfl | exact .inr (.inr (stableF_eq _ _)) | exact .inr (.inr (fun _ _ _ _ _ => trivial)) | apply And.intro)
    ·refine ⟨?_,?_,?_,?_,?_,?_,?_,?_,?_,?_,?_,?_,trivial⟩
     all_goals
      intro a' z hb hf
      have z0:=hb.blk (unhide H0) (footBut_no (by intro q hq;simp at hq;subst hq;intro (e:w.heap.size=w.heap.size+1);omega))
      have z4:=hb.blk (unhide H4) (footBut_no (by intro q hq;simp at hq;subst hq;intro (e:g4=w.heap.size+1);omega))
      have e0:z.cell? ⟨g4,0,none⟩=some (.int .u32 o):=blk_cell (i:=0) z4
      have e1:z.cell? ⟨g4,1,none⟩=some (.int .u64 c):=blk_cell (i:=1) z4
      have e2:z.cell? ⟨g4,2,none⟩=some (.int .i64 a):=blk_cell (i:=2) z4
      have e3:z.cell? ⟨g4,3,none⟩=some (.int .i64 b):=blk_cell (i:=3) z4
      have e4:z.cell? ⟨g4,4,none⟩=some (.int .i64 d):=blk_cell (i:=4) z4
      have Z0:=hide z0
      clear z0 z4
      simp only [PlanFacts,List.getD_cons_zero,List.getD_cons_succ,Array.getD_eq_getD_getElem?] at hf
      try simp at hf
     iterate 3
      ·clear hb
       go_simp
       exact ⟨_,rfl,Far.refl _ _,rfl⟩
     ·clear hb
      go_simp
      refine (unhide (hIS z)).mono ?_
      rintro r w1 ⟨rfl,hb1⟩
      exact ⟨_,rfl,far_below hb1,by rw [his];rfl⟩
     ·clear hb
      go_simp
      exact ⟨_,rfl,Far.refl _ _,rfl⟩
     ·clear hb
      have hg:a'.tmps[35]? = some (.bool true):=tmpB (by first | exact hf | exact hf.2 | exact hf.2.2)
      go_simp
      exact ⟨_,rfl,Far.refl _ _,rfl⟩
     ·clear hb
      have hg:a'.tmps[35]? = some (.bool true):=tmpB (by first | exact hf | exact hf.2 | exact hf.2.2)
      go_simp
      refine (unhide (hSH2 z)).mono ?_
      rintro r w1 ⟨rfl,hb1⟩
      exact ⟨_,rfl,far_below hb1,rfl⟩
     ·clear hb
      have hg:a'.tmps[35]? = some (.bool true):=tmpB (by first | exact hf | exact hf.2 | exact hf.2.2)
      rw [if_pos (by go_simp)]
      exact oper_load_sec (.tmp 1) rfl w.heap.size (by simp [Act.eval,hf]) 214 S hS (unhide Z0) ⟨_,rfl,Far.refl _ _,rfl⟩
     ·clear hb
      have hg:a'.tmps[35]? = some (.bool true):=tmpB (by first | exact hf | exact hf.2 | exact hf.2.2)
      go_simp
      exact ⟨_,rfl,Far.refl _ _,rfl⟩
     ·clear hb
      go_simp
      exact ⟨_,rfl,Far.refl _ _,rfl⟩
     ·have z1:=hb.blk (unhide H1) (by
       rintro ⟨q,hq,g1,g2,g3⟩
       simp at hq
       subst hq
       exact g1 rfl)
      clear hb
      rw [if_pos (by rfl)]
      refine wp_store_row 199 (.tmp 2) (.tmp 31) rfl (w.heap.size+1) #[.int .u32 o,.int .u64 c,.int .i64 a,.int .i64 b,.int .i64 d] (by simp [Act.eval,hf]) (by simp [Act.eval,hf]) 199 _ z1 (by rw [size_head];rfl) (by simp) (by rw [Array.all_eq_true_iff_forall_mem];intro u hu;simp at hu;rcases hu with rfl | rfl | rfl | rfl | rfl <;> rfl) ?_
      exact ⟨_,rfl,footOf_of (.head _) (far_setRow _ _ _),setRow_heap _ _ _ _ _ _ z1⟩
     ·clear hb
      go_simp
      exact ⟨_,rfl,Far.refl _ _,rfl⟩
    ·intro f z hF hwd
     have h9:=hwd.2.2.2.2.2.2.2.2.2.2.1
     have h11:=hwd.2.2.2.2.2.2.2.2.2.2.2.1
     have q0:z.cell? ⟨w.heap.size+1,0,none⟩=some (.int .u32 o):=blk_cell (i:=0) h9
     have q1:z.cell? ⟨w.heap.size+1,1,none⟩=some (.int .u64 c):=blk_cell (i:=1) h9
     have q2:z.cell? ⟨w.heap.size+1,2,none⟩=some (.int .i64 a):=blk_cell (i:=2) h9
     have q3:z.cell? ⟨w.heap.size+1,3,none⟩=some (.int .i64 b):=blk_cell (i:=3) h9
     have q4:z.cell? ⟨w.heap.size+1,4,none⟩=some (.int .i64 d):=blk_cell (i:=4) h9
     have HBZ:=hide ((unhide HB).trans (hF.below (unhide HB).size (fun k hk h => by
      obtain ⟨q,hq,h⟩:=h
      simp at hq
      subst hq
      have h:k=w.heap.size+1:=h
      omega)))
     clear hwd hF h9
     simp only [mergeT,h11]
     generalize f 31=x31
     generalize f 32=x32
     generalize f 33=x33
     generalize f 34=x34
     generalize f 35=x35
     generalize f 36=x36
     generalize f 37=x37
     generalize f 38=x38
     generalize f 39=x39
     generalize f 40=x40
     go_simp
     go_wp2
     refine bodyPost_ret (v:=.tuple #[.agg #[.int .u32 o,.int .u64 c,.int .i64 a,.int .i64 b,.int .i64 d],.bool (decide (T=S))]) (by simp [results,Tryz.results159,go_sem,q0,q1,q2,q3,q4]) rfl ⟨⟨o,c,a,b,d⟩,?_,fun _ => rfl,unhide HBZ⟩
     have:ok=decide (T=S):=by rw [unhide HOK,his,decide_eq_true (unhide HKK).1,decide_eq_true (unhide HKK).2.1,decide_eq_true (unhide HKK).2.2];rfl
     rw [this]
     rfl
   | false =>
    refine wp_region_foot (by kernel_rfl)
     [fun v _ => v = .agg #[.int .u32 o,.int .u64 c,.int .i64 a,.int .i64 b,.int .i64 d],fun v _ => v = .pointer (some ⟨g4,0,none⟩),fun v _ => v = .agg #[.int .u32 o,.int .u64 c],fun v _ => v = .bool false,fun v _ => v = .bool false,
      fun _ _ => True,fun _ _ => True,fun _ _ => True,fun _ _ => True,fun v _ => v = .bool false,fun _ z => z.heap[w.heap.size+1]? = some (.cells #[.int .u32 o,.int .u64 c,.int .i64 a,.int .i64 b,.int .i64 d] 199 (0,0)),fun v _ => v = .bool (false)]
     [[(4,none)],[(4,none)],[(32,some 1)],[(33,some 2)],[(34,some 3)],[(4,none),(35,some 4)],[(36,some 5),(35,some 4)],[(1,none),(35,some 4)],[(37,some 6),(38,some 7),(35,some 4)],[(35,some 4),(39,some 8)],[(2,none),(31,some 0)],[(40,some 9)]] [some 31,some 32,some 33,some 34,some 35,some 36,some 37,some 38,some 39,some 40,none,some 3] [false,false,false,true,false,false,false,false,false,false,false,false,false,false,false,false,false,false,false,false,false,false,false,false,false,false,false,false,false,false,false,true,true,true,true,true,true,true,true,true,true]
     [(10,fun k => k=w.heap.size+1)]
     (by kernel_rfl) (by kernel_rfl) (by kernel_rfl) (by kernel_rfl) (by kernel_rfl) ?_ ?_ ?_ ?_
    ·repeat' (first | exact stable_eq _ | exact stable_true | exact stable_blk _ _ | exact trivial | apply And.intro)
    ·repeat' (first | exact trivial | exact .inl rfl | exact .inr (.inr (stableF_eq _ _)) | exact .inr (.inr (fun _ _ _ _ _ => trivial)) | apply And.intro)
    ·refine ⟨?_,?_,?_,?_,?_,?_,?_,?_,?_,?_,?_,?_,trivial⟩
     all_goals
      intro a' z hb hf
      have z0:=hb.blk (unhide H0) (footBut_no (by intro q hq;simp at hq;subst hq;intro (e:w.heap.size=w.heap.size+1);omega))
      have z4:=hb.blk (unhide H4) (footBut_no (by intro q hq;simp at hq;subst hq;intro (e:g4=w.heap.size+1);omega))
      have e0:z.cell? ⟨g4,0,none⟩=some (.int .u32 o):=blk_cell (i:=0) z4
      have e1:z.cell? ⟨g4,1,none⟩=some (.int .u64 c):=blk_cell (i:=1) z4
      have e2:z.cell? ⟨g4,2,none⟩=some (.int .i64 a):=blk_cell (i:=2) z4
      have e3:z.cell? ⟨g4,3,none⟩=some (.int .i64 b):=blk_cell (i:=3) z4
      have e4:z.cell? ⟨g4,4,none⟩=some (.int .i64 d):=blk_cell (i:=4) z4
      have Z0:=hide z0
      clear z0 z4
      simp only [PlanFacts,List.getD_cons_zero,List.getD_cons_succ,Array.getD_eq_getD_getElem?] at hf
      try simp at hf
     iterate 3
      ·clear hb
       go_simp
       exact ⟨_,rfl,Far.refl _ _,rfl⟩
     ·clear hb
      go_simp
      refine (unhide (hIS z)).mono ?_
      rintro r w1 ⟨rfl,hb1⟩
      exact ⟨_,rfl,far_below hb1,by rw [his];rfl⟩
     ·clear hb
      go_simp
      exact ⟨_,rfl,Far.refl _ _,rfl⟩
     iterate 4
      ·clear hb
       have hg:a'.tmps[35]? = some (.bool false):=tmpB (by first | exact hf | exact hf.2 | exact hf.2.2)
       go_simp
       try trivial
     ·clear hb
      go_simp
      exact ⟨_,rfl,Far.refl _ _,rfl⟩
     ·have z1:=hb.blk (unhide H1) (by
       rintro ⟨q,hq,g1,g2,g3⟩
       simp at hq
       subst hq
       exact g1 rfl)
      clear hb
      rw [if_pos (by rfl)]
      refine wp_store_row 199 (.tmp 2) (.tmp 31) rfl (w.heap.size+1) #[.int .u32 o,.int .u64 c,.int .i64 a,.int .i64 b,.int .i64 d] (by simp [Act.eval,hf]) (by simp [Act.eval,hf]) 199 _ z1 (by rw [size_head];rfl) (by simp) (by rw [Array.all_eq_true_iff_forall_mem];intro u hu;simp at hu;rcases hu with rfl | rfl | rfl | rfl | rfl <;> rfl) ?_
      exact ⟨_,rfl,footOf_of (.head _) (far_setRow _ _ _),setRow_heap _ _ _ _ _ _ z1⟩
     ·clear hb
      go_simp
      exact ⟨_,rfl,Far.refl _ _,rfl⟩
    ·intro f z hF hwd
     have h9:=hwd.2.2.2.2.2.2.2.2.2.2.1
     have h11:=hwd.2.2.2.2.2.2.2.2.2.2.2.1
     have q0:z.cell? ⟨w.heap.size+1,0,none⟩=some (.int .u32 o):=blk_cell (i:=0) h9
     have q1:z.cell? ⟨w.heap.size+1,1,none⟩=some (.int .u64 c):=blk_cell (i:=1) h9
     have q2:z.cell? ⟨w.heap.size+1,2,none⟩=some (.int .i64 a):=blk_cell (i:=2) h9
     have q3:z.cell? ⟨w.heap.size+1,3,none⟩=some (.int .i64 b):=blk_cell (i:=3) h9
     have q4:z.cell? ⟨w.heap.size+1,4,none⟩=some (.int .i64 d):=blk_cell (i:=4) h9
     have HBZ:=hide ((unhide HB).trans (hF.below (unhide HB).size (fun k hk h => by
      obtain ⟨q,hq,h⟩:=h
      simp at hq
      subst hq
      have h:k=w.heap.size+1:=h
      omega)))
     clear hwd hF h9
     simp only [mergeT,h11]
     generalize f 31=x31
     generalize f 32=x32
     generalize f 33=x33
     generalize f 34=x34
     generalize f 35=x35
     generalize f 36=x36
     generalize f 37=x37
     generalize f 38=x38
     generalize f 39=x39
     generalize f 40=x40
     go_simp
     go_wp2
     refine bodyPost_ret (v:=.tuple #[.agg #[.int .u32 o,.int .u64 c,.int .i64 a,.int .i64 b,.int .i64 d],.bool (false)]) (by simp [results,Tryz.results159,go_sem,q0,q1,q2,q3,q4]) rfl ⟨⟨o,c,a,b,d⟩,?_,fun _ => rfl,unhide HBZ⟩
     have:ok=false:=by rw [unhide HOK,his,decide_eq_true (unhide HKK).1,decide_eq_true (unhide HKK).2.1,decide_eq_true (unhide HKK).2.2];rfl
     rw [this]
     rfl
end Go.Proofs.YtamafdcnbcoegabGreat
