/-
  Part 10 of a proof: E1, E2, E4, E5, E6, L31, L34.
-/
import Derived.Test.YtamafdcnbcoegabGreatCm9
set_option maxRecDepth 100000
set_option maxHeartbeats 40000000
namespace Go.Proofs.YtamafdcnbcoegabGreat
namespace Mod
def sec (L:List UInt8) (k:Nat):List UInt8:=(L.drop (k * 64)).take 64
theorem length_sec {L:List UInt8} {k:Nat} (h:k * 64+64<=L.length):(sec L k).length=64:=by
 simp[sec];omega
theorem sec_set {L s:List UInt8} {k:Nat} (hs:s.length=64) (r:64 * k+64<=L.length):sec (setSec L k s) k=s:=by
 unfold sec setSec;have h1:(L.take (64 * k)).length=k * 64:=by simp;omega
 rw[List.append_assoc,List.drop_append_of_le_length (by omega),List.drop_of_length_le (by omega),List.nil_append,List.take_append_of_le_length (by omega),List.take_of_length_le (by omega)]
theorem sec_other {L s:List UInt8} {k j:Nat} (hs:s.length=64) (r:64 * k+64<=L.length) (h:j≠k):sec (setSec L k s) j=sec L j:=by
 unfold sec;apply List.ext_getElem?;intro i;rw[List.getElem?_take,List.getElem?_take];split
 ·rename_i hi;rw[List.getElem?_drop,List.getElem?_drop];unfold setSec;rw[List.append_assoc];by_cases z:j < k
  ·rw[List.getElem?_append_left (by simp;omega),List.getElem?_take,if_pos (by omega)]
  ·have hl:(L.take (64 * k)).length=64 * k:=by simp;omega
   rw[List.getElem?_append_right (by omega),hl,List.getElem?_append_right (by omega),hs,List.getElem?_drop];congr 1;omega
 ·rfl
def nought:List UInt8:=List.replicate 64 0
def opOf (S:List UInt8):Nat:=(Wire.numAt S 0).toNat
def ctOf (S:List UInt8):Nat:=(Wire.numAt S 4).toNat+(Wire.numAt S 8).toNat * 4294967296
theorem opOf_lt (S:List UInt8):opOf S < 4294967296:=by have:=Wire.numAt_range S 0;unfold opOf;omega
theorem ctOf_lt (S:List UInt8):ctOf S < 18446744073709551616:=by have:=Wire.numAt_range S 4;have:=Wire.numAt_range S 8;unfold ctOf;omega
structure Hd where
 o:Nat
 c:Nat
 a:Nat
 b:Nat
 d:Nat
def hd0:Hd:=⟨0,0,0,0,0⟩
def hdOf (S:List UInt8):Hd:=⟨opOf S,ctOf S,(Wire.numAt S 12).toNat,(Wire.numAt S 16).toNat,(Wire.numAt S 20).toNat⟩
def sealH (h:Hd):List UInt8:=sealB h.o h.c (headIn h.a h.b h.d)
def Hd.small (h:Hd):Bool:=decide (h.a<=2147483647) && (decide (h.b<=2147483647) &&decide (h.d<=2147483647))
def isStamp (o:Nat):Bool:=decide (1<=o) &&decide (o<=1073741824)
def headOk (S:List UInt8):Bool:=decide (S=nought) || ((hdOf S).small&& (isStamp (opOf S) &&decide (sealH (hdOf S)=S)))
def headIs (S:List UInt8):Hd:=if S=nought then hd0 else hdOf S
theorem numAt_le4 {n:Nat} (h:n < 4294967296) (p q:List UInt8):Wire.numAt (p++(Wire.le4 (n:Int)++q)) p.length=n:=by
 unfold Wire.numAt Wire.le4;have e:=Wire.num4_le4 (n:=(n:Int)) (by omega) (by omega);conv=>rhs;rw[<-e]
 congr 1 <;> simp[List.getD_eq_getElem?_getD]
theorem stamp_split (o c:Nat) (r:List UInt8):stampB o c++r=Wire.le4 (o:Int)++(Wire.le4 ((c % 4294967296:Nat):Int)++(Wire.le4 ((c / 4294967296:Nat):Int)++r)):=by
 unfold stampB;simp
theorem opOf_seal {o c:Nat} {ins:List UInt8} (r:o < 4294967296):opOf (sealB o c ins)=o:=by
 unfold opOf sealB;rw[List.append_assoc,stamp_split];have:=numAt_le4 r [] (Wire.le4 ((c % 4294967296:Nat):Int)++(Wire.le4 ((c / 4294967296:Nat):Int)++((ins++List.replicate (40 - ins.length) 0)++stampB o c)));simp only[List.nil_append,List.length_nil]at this;rw[this];omega
theorem ctOf_seal {o c:Nat} {ins:List UInt8} (r:c < 18446744073709551616):ctOf (sealB o c ins)=c:=by
 unfold ctOf sealB;rw[List.append_assoc,stamp_split];have h1:=numAt_le4 (n:=c % 4294967296) (by omega) (Wire.le4 (o:Int)) (Wire.le4 ((c / 4294967296:Nat):Int)++((ins++List.replicate (40 - ins.length) 0)++stampB o c));have h2:=numAt_le4 (n:=c / 4294967296) (by omega) (Wire.le4 (o:Int)++Wire.le4 ((c % 4294967296:Nat):Int)) ((ins++List.replicate (40 - ins.length) 0)++stampB o c);rw[Wire.length_le4]at h1;rw[List.length_append,Wire.length_le4,Wire.length_le4,List.append_assoc]at h2;rw[h1,h2];omega
theorem inside_at {o c n:Nat} {p q:List UInt8} (r:n < 4294967296):Wire.numAt (sealB o c (p++(Wire.le4 (n:Int)++q))) (12+p.length)=n:=by
 unfold sealB;have h:=numAt_le4 r (stampB o c++p) (q++(List.replicate (40 - (p++(Wire.le4 (n:Int)++q)).length) 0++stampB o c));have e:(stampB o c++p).length=12+p.length:=by rw[List.length_append,length_stampB]
 rw[e]at h;conv=>rhs;rw[<-h]
 congr 1
 simp
theorem hdOf_seal {h:Hd} (F:h.o < 4294967296) (G:h.c < 18446744073709551616) (H:h.a < 4294967296) (I:h.b < 4294967296) (hd:h.d < 4294967296):hdOf (sealH h)=h:=by
 unfold hdOf sealH;have J:headIn h.a h.b h.d=[]++(Wire.le4 (h.a:Int)++(Wire.le4 (h.b:Int)++Wire.le4 (h.d:Int))):=by unfold headIn;simp
 have M:headIn h.a h.b h.d=Wire.le4 (h.a:Int)++(Wire.le4 (h.b:Int)++Wire.le4 (h.d:Int)):=by unfold headIn;simp
 have O:headIn h.a h.b h.d=(Wire.le4 (h.a:Int)++Wire.le4 (h.b:Int))++(Wire.le4 (h.d:Int)++[]):=by unfold headIn;simp
 have r:=inside_at (o:=h.o) (c:=h.c) (p:=[]) (q:=Wire.le4 (h.b:Int)++Wire.le4 (h.d:Int)) H;have z:=inside_at (o:=h.o) (c:=h.c) (p:=Wire.le4 (h.a:Int)) (q:=Wire.le4 (h.d:Int)) I;have D:=inside_at (o:=h.o) (c:=h.c) (p:=Wire.le4 (h.a:Int)++Wire.le4 (h.b:Int)) (q:=[]) hd;rw[<-J]at r;rw[<-M,Wire.length_le4]at z;rw[<-O,List.length_append,Wire.length_le4,Wire.length_le4]at D;simp only[List.length_nil]at r;rw[opOf_seal F,ctOf_seal G,r,z,D];simp
theorem length_sealH (h:Hd):(sealH h).length=64:=length_sealB _ _ (by rw[length_headIn];omega)
theorem opOf_nought:opOf nought=0:=by decide
theorem sealH_ne {h:Hd} (z:1<=h.o) (r:h.o < 4294967296):sealH h≠nought:=by
 intro e;have:=opOf_seal (c:=h.c) (ins:=headIn h.a h.b h.d) r;unfold sealH at e;rw[e,opOf_nought]at this;omega
theorem headOk_seal {h:Hd} (hs:isStamp h.o=true) (z:h.c < 18446744073709551616) (r:h.small=true):headOk (sealH h)=true/\headIs (sealH h)=h:=by
 have D:1<=h.o/\h.o<=1073741824:=by simpa[isStamp]using hs
 have G:h.a<=2147483647/\h.b<=2147483647/\h.d<=2147483647:=by simpa[Hd.small]using r
 have e:=hdOf_seal (h:=h) (by omega) z (by omega) (by omega) (by omega);have F:=opOf_seal (c:=h.c) (ins:=headIn h.a h.b h.d) (o:=h.o) (by omega);refine⟨?_,?_⟩
 ·unfold headOk;rw[e,r];rw[show opOf (sealH h)=h.o from F,hs];simp
 ·unfold headIs;rw[if_neg (sealH_ne D.1 (by omega)),e]
theorem headOk_nought:headOk nought=true/\headIs nought=hd0:=by simp[headOk,headIs]
theorem headOk_some {S:List UInt8} (h:headOk S=true):(S=nought/\headIs S=hd0)\/(isStamp (headIs S).o=true/\(headIs S).c < 18446744073709551616/\(headIs S).small=true/\S=sealH (headIs S)):=by
 unfold headOk at h;by_cases e:S=nought
 ·exact .inl ⟨e,by unfold headIs;rw[if_pos e]⟩
 ·right;have r:(hdOf S).small=true/\isStamp (opOf S)=true/\sealH (hdOf S)=S:=by simpa[e]using h
  unfold headIs;rw[if_neg e];exact⟨r.2.1,ctOf_lt S,r.1,r.2.2.symm⟩
def newer2 (h g:Hd):Bool:=if h.o≠g.o then decide (g.o < h.o)else decide (g.c < h.c)
def newest (L:List UInt8):Option (Hd×Nat):=
 if headOk (sec L 0)=true/\headOk (sec L 1)=true then
  if newer2 (headIs (sec L 1)) (headIs (sec L 0))=true then some (headIs (sec L 1),1)
  else if newer2 (headIs (sec L 0)) (headIs (sec L 1))=true then some (headIs (sec L 0),0)
  else if(headIs (sec L 0)).o=0/\(headIs (sec L 1)).o=0 then some (hd0,0)else none
 else none
structure Rc where
 s:Nat
 q:Nat
 b:ByteArray
def rc0:Rc:=⟨0,0,⟨#[]⟩⟩
def lenOf (S:List UInt8):Nat:=(S.getD 13 0).toNat
def rcOf (S:List UInt8):Rc:=⟨(S.getD 12 0).toNat,(Wire.numAt S 14).toNat,⟨((S.drop 18).take (lenOf S)).toArray⟩⟩
def sealR (o c:Nat) (r:Rc):List UInt8:=sealB o c (recIn r.s r.q r.b.data.toList)
def recOk (S:List UInt8) (last:Nat):Bool:=
 decide (S=nought) || ((decide (lenOf S<=20) && (decide ((rcOf S).s < 3) && (decide (1<=(rcOf S).q) &&decide ((rcOf S).q<=2147483647)))) && (isStamp (opOf S) && (decide (opOf S<=last) &&decide (sealR (opOf S) (ctOf S) (rcOf S)=S))))
def recIs (S:List UInt8):Rc:=if S=nought then rc0 else rcOf S
def Rc.fits (r:Rc):Prop:=r.s < 3/\1<=r.q/\r.q<=2147483647/\r.b.size<=20
theorem len_b (b:ByteArray):b.data.toList.length=b.size:=Array.length_toList
theorem rcOf_seal {o c:Nat} {r:Rc} (D:r.fits):rcOf (sealR o c r)=r/\lenOf (sealR o c r)=r.b.size:=by
 obtain⟨h1,h2,h3,h4⟩:=D;have hl:=len_b r.b;have z:lenOf (sealR o c r)=r.b.size:=by unfold lenOf sealR sealB recIn;rw[List.append_assoc,List.getD_eq_getElem?_getD,List.getElem?_append_right (by rw[length_stampB];omega),length_stampB];simp;omega
 refine⟨?_,z⟩;have F:((sealR o c r).getD 12 0).toNat=r.s:=by unfold sealR sealB recIn;rw[List.append_assoc,List.getD_eq_getElem?_getD,List.getElem?_append_right (by rw[length_stampB];omega),length_stampB];simp;omega
 have G:(Wire.numAt (sealR o c r) 14).toNat=r.q:=by have:=inside_at (o:=o) (c:=c) (p:=[UInt8.ofNat (r.s % 256),UInt8.ofNat (r.b.data.toList.length % 256)]) (q:=r.b.data.toList) (n:=r.q) (by omega);rw[<-List.append_assoc]at this;unfold sealR recIn;rw[show(14:Nat)=12+ [UInt8.ofNat (r.s % 256),UInt8.ofNat (r.b.data.toList.length % 256)].length from rfl,this];rfl
 have H:((sealR o c r).drop 18).take r.b.size=r.b.data.toList:=by
  have hd:(sealR o c r).drop 18=r.b.data.toList++(List.replicate (40 - (recIn r.s r.q r.b.data.toList).length) 0++stampB o c):=by
   unfold sealR sealB;have:stampB o c++(recIn r.s r.q r.b.data.toList++List.replicate (40 - (recIn r.s r.q r.b.data.toList).length) 0)++stampB o c
     =(stampB o c++([UInt8.ofNat (r.s % 256),UInt8.ofNat (r.b.data.toList.length % 256)]++Wire.le4 (r.q:Int)))++(r.b.data.toList++(List.replicate (40 - (recIn r.s r.q r.b.data.toList).length) 0++stampB o c)):=by
    conv=>lhs;arg 1;arg 2;arg 1;unfold recIn
    simp
   rw[this];exact List.drop_left' (by simp[length_stampB,Wire.length_le4])
  rw[hd,List.take_append_of_le_length (by omega),List.take_of_length_le (by omega)]
 unfold rcOf;rw[F,z,G,H]
theorem length_sealR {o c:Nat} {r:Rc} (z:r.b.size<=20):(sealR o c r).length=64:=
 length_sealB _ _ (by rw[length_recIn,len_b];omega)
theorem sealR_ne {o c:Nat} {r:Rc} (D:1<=o) (z:o < 4294967296):sealR o c r≠nought:=by
 intro e;have:=opOf_seal (c:=c) (ins:=recIn r.s r.q r.b.data.toList) z;unfold sealR at e;rw[e,opOf_nought]at this;omega
def RecAt (S:List UInt8) (last:Nat) (r:Rc):Prop:=(S=nought/\r=rc0)\/∃o c,1<=o/\o<=last/\o < 4294967296/\c < 18446744073709551616/\r.fits/\S=sealR o c r
theorem RecAt.up {S:List UInt8} {n m:Nat} {r:Rc} (h:RecAt S n r) (z:n<=m):RecAt S m r:=by
 rcases h with h|⟨o,c,h1,h2,h3⟩
 ·exact .inl h
 ·exact .inr ⟨o,c,h1,by omega,h3⟩
theorem recOk_at {S:List UInt8} {last:Nat} {r:Rc} (h:RecAt S last r) (hl:last<=1073741824):recOk S last=true/\recIs S=r:=by
 rcases h with ⟨rfl,rfl⟩|⟨o,c,h1,h2,h3,h4,z,rfl⟩
 ·simp[recOk,recIs]
 ·obtain⟨D,F⟩:=rcOf_seal (o:=o) (c:=c) z;have G:opOf (sealR o c r)=o:=opOf_seal h3;have H:ctOf (sealR o c r)=c:=ctOf_seal h4;obtain⟨g1,g2,I,J⟩:=z;refine⟨?_,?_⟩
  ·unfold recOk;rw[D,F,G,H];simp[isStamp];right;omega
  ·unfold recIs;rw[if_neg (sealR_ne h1 h3),D]
theorem recAt_ok {S:List UInt8} {last:Nat} (h:recOk S last=true):RecAt S last (recIs S):=by
 unfold recOk at h;by_cases e:S=nought
 ·exact .inl ⟨e,by unfold recIs;rw[if_pos e]⟩
 ·right;have r:(lenOf S<=20/\(rcOf S).s < 3/\1<=(rcOf S).q/\(rcOf S).q<=2147483647)/\isStamp (opOf S)=true/\opOf S<=last/\sealR (opOf S) (ctOf S) (rcOf S)=S:=by have:=h;simp[e]at this;omega
  obtain⟨⟨g1,g2,z,D⟩,F,G,H⟩:=r;have I:1<=opOf S/\opOf S<=1073741824:=by simpa[isStamp]using F
  unfold recIs;rw[if_neg e];refine⟨opOf S,ctOf S,I.1,G,by omega,ctOf_lt S,⟨g2,z,D,?_⟩,H.symm⟩;show(rcOf S).b.size<=20;simp[rcOf,ByteArray.size];omega
theorem recOk_small {S:List UInt8} {last:Nat} (h:recOk S last=true):(recIs S).s < 3/\(recIs S).q<=2147483647/\(recIs S).b.size<=20:=by
 rcases recAt_ok h with ⟨_,e⟩|⟨o,c,_,_,_,_,⟨h1,h2,h3,h4⟩,_⟩
 ·rw[e];simp[rc0,ByteArray.size]
 ·exact⟨h1,h3,h4⟩
def recsFrom (L:List UInt8) (last:Nat):Nat->Nat->Option (List Rc)
 | _,0=>some []
 |x,n+1=>if recOk (sec L (2+x)) last=true then(recsFrom L last (x+1) n).map (recIs (sec L (2+x)):: ·)else none
end Mod
namespace Mod
def Older (S:List UInt8) (op c:Nat):Prop:=S=nought\/∃h:Hd,1<=h.o/\h.o<=op/\h.c < 18446744073709551616/\h.small=true/\(h.o < op\/h.c < c)/\S=sealH h
structure DiskOk (L:List UInt8) (op ct hd:Nat) (g:Nat->Nat) (m:Nat):Prop where
 len:L.length=m * 64
 two:2<=m
 hd1:hd<=1
 op1:1<=op
 opm:op < 4294967296
 ctm:ct < 18446744073709551616
 sm:∀i,i < 3->g i<=2147483647
 hs:∃c,c<=ct/\sec L hd=sealH ⟨op,c,g 0,g 1,g 2⟩/\Older (sec L (1 - hd)) op c
theorem newer2_of {h g:Hd} (r:g.o < h.o\/g.o=h.o/\g.c < h.c):newer2 h g=true/\newer2 g h=false:=by
 unfold newer2;rcases r with r|⟨r,z⟩
 ·rw[if_pos (by omega),if_pos (by omega)];simp;omega
 ·rw[if_neg (by omega),if_neg (by omega)];simp;omega
theorem Older.head {S:List UInt8} {op c:Nat} (h:Older S op c) (z:op<=1073741824) (r:1<=op):headOk S=true/\((headIs S).o < op\/(headIs S).o=op/\(headIs S).c < c):=by
 rcases h with rfl|⟨h,h1,h2,h3,h4,h5,rfl⟩
 ·exact⟨headOk_nought.1, .inl (by rw[headOk_nought.2];exact r)⟩
 ·have:=headOk_seal (h:=h) (by simp[isStamp];omega) h3 h4;refine⟨this.1,?_⟩;rw[this.2];omega
theorem small_of {a b d:Nat} {o c:Nat} (r:a<=2147483647) (z:b<=2147483647) (hd:d<=2147483647):Hd.small ⟨o,c,a,b,d⟩=true:=by simp[Hd.small];omega
theorem DiskOk.newest {L:List UInt8} {op ct hd:Nat} {g:Nat->Nat} {m:Nat} (h:DiskOk L op ct hd g m) (F:op<=1073741824):∃c,newest L=some (⟨op,c,g 0,g 1,g 2⟩,hd):=by
 obtain⟨c,h1,h2,h3⟩:=h.hs;have s:=headOk_seal (h:=⟨op,c,g 0,g 1,g 2⟩) (by have:=h.op1;simp[isStamp];omega) (by have:=h.ctm;show c < _;omega) (small_of (h.sm 0 (by omega)) (h.sm 1 (by omega)) (h.sm 2 (by omega)));obtain⟨z,D⟩:=h3.head F h.op1;refine⟨c,?_⟩;have G:=h.hd1;obtain rfl|rfl:hd=0\/hd=1:=by omega
 ·have r:=newer2_of (h:=⟨op,c,g 0,g 1,g 2⟩) (g:=headIs (sec L 1)) D;unfold Mod.newest;rw[h2,s.1,s.2,show sec L 1=sec L (1 - 0) from rfl,z];rw[if_pos ⟨rfl,rfl⟩,show headIs (sec L (1 - 0))=headIs (sec L 1) from rfl,r.2,if_neg (by simp),r.1,if_pos rfl]
 ·have r:=newer2_of (h:=⟨op,c,g 0,g 1,g 2⟩) (g:=headIs (sec L 0)) D;unfold Mod.newest;rw[h2,s.1,s.2,show sec L 0=sec L (1 - 1) from rfl,z];rw[if_pos ⟨rfl,rfl⟩,show headIs (sec L (1 - 1))=headIs (sec L 0) from rfl,r.1,if_pos rfl]
theorem DiskOk.numbers {L:List UInt8} {op ct hd:Nat} {g g':Nat->Nat} {m:Nat} (h:DiskOk L op ct hd g m) (z:∀i,i < 3->g' i<=2147483647) (D:ct+1 < 18446744073709551616):
  DiskOk (setSec L (1 - hd) (sealH ⟨op,ct+1,g' 0,g' 1,g' 2⟩)) op (ct+1) (1 - hd) g' m:=by
 obtain⟨c,h1,h2,h3⟩:=h.hs;have hl:=h.len;have F:=h.two;have G:=h.hd1;have r:=length_sealH ⟨op,ct+1,g' 0,g' 1,g' 2⟩;refine⟨by rw[length_setSec r (by omega)];exact hl,F,by omega,h.op1,h.opm,D,z,ct+1,Nat.le_refl _,sec_set r (by omega),?_⟩;rw[sec_other r (by omega) (by omega),show 1 - (1 - hd)=hd by omega,h2];exact .inr ⟨⟨op,c,g 0,g 1,g 2⟩,h.op1,Nat.le_refl _,by have:=h.ctm;show c < _;omega,small_of (h.sm 0 (by omega)) (h.sm 1 (by omega)) (h.sm 2 (by omega)), .inr (by show c < ct+1;omega),rfl⟩
theorem DiskOk.record {L:List UInt8} {op ct hd:Nat} {g:Nat->Nat} {m:Nat} (h:DiskOk L op ct hd g m) {x:Nat} {S:List UInt8} (r:S.length=64) (F:2+x < m) (z:ct+1 < 18446744073709551616):
  DiskOk (setSec L (2+x) S) op (ct+1) hd g m:=by
 obtain⟨c,h1,h2,h3⟩:=h.hs;have hl:=h.len;have D:=h.hd1;refine⟨by rw[length_setSec r (by omega)];exact hl,h.two,D,h.op1,h.opm,z,h.sm,c,by omega,?_,?_⟩
 ·rw[sec_other r (by omega) (by omega)];exact h2
 ·rw[sec_other r (by omega) (by omega)];exact h3
theorem newest_some {L:List UInt8} {h:Hd} {at':Nat} (r:newest L=some (h,at')):at'<=1/\headOk (sec L at')=true/\h=headIs (sec L at')/\headOk (sec L (1 - at'))=true:=by
 unfold newest at r;split at r
 ·rename_i z;split at r
  ·cases r;exact⟨by omega,z.2,rfl,z.1⟩
  ·split at r
   ·cases r;exact⟨by omega,z.1,rfl,z.2⟩
   ·split at r
    ·rename_i h0;cases r;refine⟨by omega,z.1,?_,z.2⟩;rcases headOk_some z.1 with ⟨_,e⟩|⟨e,_⟩
     ·exact e.symm
     ·rw[h0.1]at e;cases e
    ·cases r
 ·cases r
theorem headIs_small {S:List UInt8} (h:headOk S=true):(headIs S).o<=1073741824/\(headIs S).c < 18446744073709551616/\(headIs S).a<=2147483647/\(headIs S).b<=2147483647/\(headIs S).d<=2147483647:=by
 rcases headOk_some h with ⟨_,e⟩|⟨r,z,D,_⟩
 ·rw[e];simp[hd0]
 ·have h1:1<=(headIs S).o/\(headIs S).o<=1073741824:=by simpa[isStamp]using r
  have h2:(headIs S).a<=2147483647/\(headIs S).b<=2147483647/\(headIs S).d<=2147483647:=by simpa[Hd.small]using D
  exact⟨h1.2,z,h2⟩
def Hd.num (h:Hd) (i:Nat):Nat:=if i=0 then h.a else if i=1 then h.b else h.d
def openL (L:List UInt8) (h:Hd) (at':Nat):List UInt8:=setSec L (1 - at') (sealH ⟨h.o+1,1,h.a,h.b,h.d⟩)
theorem opened_ok {L:List UInt8} {h:Hd} {at' m:Nat} (z:newest L=some (h,at')) (hl:L.length=m * 64) (D:2<=m):DiskOk (openL L h at') (h.o+1) 1 (1 - at') h.num m:=by
 obtain⟨h1,h2,rfl,h3⟩:=newest_some z;have hs:=headIs_small h2;have r:=length_sealH ⟨(headIs (sec L at')).o+1,1,(headIs (sec L at')).a,(headIs (sec L at')).b,(headIs (sec L at')).d⟩;refine⟨by unfold openL;rw[length_setSec r (by omega)];exact hl,D,by omega,by omega,by omega,by omega,?_,1,Nat.le_refl _,sec_set r (by omega),?_⟩
 ·intro i _;unfold Hd.num;split
  ·omega
  ·split <;> omega
 ·unfold openL;rw[sec_other r (by omega) (by omega),show 1 - (1 - at')=at' by omega];rcases headOk_some h2 with ⟨e,_⟩|⟨F,G,H,I⟩
  ·exact .inl e
  ·have h1:1<=(headIs (sec L at')).o/\(headIs (sec L at')).o<=1073741824:=by simpa[isStamp]using F
   exact .inr ⟨_,h1.1,by omega,G,H, .inl (by omega),I⟩
theorem openL_other {L:List UInt8} {h:Hd} {at' m:Nat} (hl:L.length=m * 64) (r:2<=m) {k:Nat} (z:2<=k):sec (openL L h at') k=sec L k:=by
 unfold openL;exact sec_other (length_sealH _) (by omega) (by omega)
theorem recsFrom_at {L:List UInt8} {last:Nat} (z:last<=1073741824) (r:Nat->Rc):∀ (n x:Nat),(∀y,x<=y->y < x+n->RecAt (sec L (2+y)) last (r y))->recsFrom L last x n=some ((List.range n).map fun j=>r (x+j))
 |0,_,_=>rfl
 |n+1,x,h=>by obtain⟨h1,h2⟩:=recOk_at (h x (Nat.le_refl _) (by omega)) z;have ih:=recsFrom_at z r n (x+1) (fun y D F=>h y (by omega) (by omega));rw[recsFrom,if_pos h1,h2,ih,List.range_succ_eq_map];simp;intro a _;rw[Nat.add_assoc,Nat.add_comm 1 a]
theorem recsFrom_some {L:List UInt8} {last:Nat}:∀ (n x:Nat) {rs:List Rc},recsFrom L last x n=some rs->rs.length=n/\∀y,y < n->recOk (sec L (2+(x+y))) last=true/\rs[y]? =some (recIs (sec L (2+(x+y))))
 |0,_,rs,h=>by cases h;exact⟨rfl,fun y z=>by omega⟩
 |n+1,x,rs,h=>by
  rw[recsFrom]at h;split at h
  ·rename_i D;cases r:recsFrom L last (x+1) n with
   |none=>rw[r]at h;cases h
   |some G=>
    rw[r]at h;cases h;obtain⟨F,i2⟩:=recsFrom_some n (x+1) r;refine⟨by simp[F],fun y z=>?_⟩;cases y with
    |zero=>exact⟨D,rfl⟩
    |succ y=>have:=i2 y (by omega);rw[show x+(y+1)=x+1+y by omega];exact⟨this.1,by rw[List.getElem?_cons_succ];exact this.2⟩
  ·cases h
def openSt (L:List UInt8):Option (Hd×Nat×List Rc):=
 match newest L with
 |none=>none
 |some (h,at')=>match recsFrom L h.o 0 (L.length / 64 - 2)with
  |none=>none
  |some rs=>some (h,at',rs)
theorem openSt_some {L:List UInt8} {h:Hd} {at':Nat} {rs:List Rc} (r:openSt L=some (h,at',rs)):newest L=some (h,at')/\recsFrom L h.o 0 (L.length / 64 - 2)=some rs:=by
 unfold openSt at r;cases D:newest L with
 |none=>rw[D]at r;cases r
 |some p=>
  obtain⟨F,a'⟩:=p;rw[D]at r;simp only at r;cases z:recsFrom L F.o 0 (L.length / 64 - 2)with
  |none=>rw[z]at r;cases r
  |some G=>rw[z]at r;cases r;exact⟨rfl,z⟩
theorem openSt_of {L:List UInt8} {h:Hd} {at':Nat} {rs:List Rc} (h1:newest L=some (h,at')) (h2:recsFrom L h.o 0 (L.length / 64 - 2)=some rs):openSt L=some (h,at',rs):=by
 unfold openSt;rw[h1];simp only
 rw[h2]
theorem DiskOk.opens {L:List UInt8} {op ct hd:Nat} {g:Nat->Nat} {m:Nat} (h:DiskOk L op ct hd g m) (z:op<=1073741824) (r:Nat->Rc) (D:∀x,x < m - 2->RecAt (sec L (2+x)) op (r x)):
  ∃c,openSt L=some (⟨op,c,g 0,g 1,g 2⟩,hd,(List.range (m - 2)).map r):=by
 obtain⟨c,F⟩:=h.newest z;refine⟨c,openSt_of F ?_⟩;rw[show L.length / 64=m by have:=h.len;omega];have:=recsFrom_at (L:=L) z r (m - 2) 0 (fun y _ G=>D y (by omega));simpa using this
theorem nought_sec (n k:Nat) (h:k * 64+64<=n):sec (List.replicate n 0) k=nought:=by
 unfold sec nought;rw[List.drop_replicate,List.take_replicate];congr 1;omega
theorem openSt_nought (m:Nat) (z:2<=m):openSt (List.replicate (m * 64) 0)=some (hd0,0,(List.range (m - 2)).map fun _=>rc0):=by
 have h0:=nought_sec (m * 64) 0 (by omega);have h1:=nought_sec (m * 64) 1 (by omega);have r:newest (List.replicate (m * 64) 0)=some (hd0,0):=by unfold newest;rw[h0,h1,headOk_nought.1,headOk_nought.2];rfl
 refine openSt_of r ?_;have:=recsFrom_at (L:=List.replicate (m * 64) 0) (last:=0) (by omega) (fun _=>rc0) (m - 2) 0 (fun y _ D=> .inl ⟨nought_sec _ _ (by omega),rfl⟩);rw[List.length_replicate,Nat.mul_div_cancel _ (by omega:0 < 64)];exact this
end Mod
namespace Mod
abbrev Pe:=Nat×ByteArray×Nat
def insP:List Pe->Pe->List Pe
 |[],e=>[e]
 |y::r,e=>if e.1=y.1 then e::r else if e.1 < y.1 then e::y::r else y::insP r e
structure Ld where
 free:List Nat
 sh:Nat->List Pe
def ldStep (g:Nat->Nat) (x:Nat) (r:Rc) (l:Ld):Option Ld:=
 if r.q<=g r.s then some {l with free:=l.free++[x]}
 else if((l.sh r.s).map (·.1)).contains r.q=true then none
 else some {l with sh:=fun i=>if i=r.s then insP (l.sh r.s) (r.q,r.b,x)else l.sh i}
def ldAll (g:Nat->Nat):List Rc->Nat->Ld->Option Ld
 |[],_,l=>some l
 |r::rs,x,l=>match ldStep g x r l with
  |none=>none
  |some z=>ldAll g rs (x+1) z
def lastP (l:List Pe) (b:Nat):Nat:=max (match l.getLast? with|none=>0|some x=>x.1) b
def okP (l:List Pe) (b:Nat):Bool:=decide (lastP l b<=1073741824) &&decide (lastP l b=b+l.length)
def ld0:Ld:=⟨[],fun _=>[]⟩
def agOf (op:Nat) (g:Nat->Nat) (l:Ld):Ag:={epoch:=op+1,ticks:=0,welcome:=false,fenced:=false,fl:=fun i=>if i < 3 then {base:=g i,kept:=(l.sh i).map fun e=>(e.2.1,0),held:=[]}else {base:=0,kept:=[],held:=[]}}
def agLoad (L:List UInt8):Option Ag:=
 match openSt L with
 |none=>none
 |some (h,_,rs)=>match ldAll h.num rs 0 ld0 with
  |none=>none
  |some l=>if okP (l.sh 0) (h.num 0)=true/\okP (l.sh 1) (h.num 1)=true/\okP (l.sh 2) (h.num 2)=true then some (agOf h.o h.num l)else none
def keptP:Nat->List (ByteArray×Nat)->List Nat->List Pe
 |b,x::r,q::z=>(b+1,x.1,q)::keptP (b+1) r z
 | _,_,_=>[]
theorem keptP_length:∀ (b:Nat) (k:List (ByteArray×Nat)) (p:List Nat),p.length=k.length->(keptP b k p).length=k.length
 | _,[],[],_=>rfl
 |b,_::r,_::z,h=>by rw[keptP,List.length_cons,keptP_length (b+1) r z (by simpa using h),List.length_cons]
theorem keptP_get:∀ (b:Nat) (k:List (ByteArray×Nat)) (p:List Nat) (j:Nat) (e:Pe),(keptP b k p)[j]? =some e->e.1=b+1+j/\(∃t,k[j]? =some (e.2.1,t))/\p[j]? =some e.2.2
 | _,[],_,j,e,h=>by simp[keptP]at h
 | _,_:: _,[],j,e,h=>by simp[keptP]at h
 |b,x::r,q::z,0,e,h=>by simp[keptP]at h;subst h;exact⟨rfl,⟨x.2,rfl⟩,rfl⟩
 |b,x::r,q::z,j+1,e,h=>by rw[keptP,List.getElem?_cons_succ]at h;obtain⟨h1,h2,h3⟩:=keptP_get (b+1) r z j e h;exact⟨by omega,h2,h3⟩
theorem keptP_gt:∀ (b:Nat) (k:List (ByteArray×Nat)) (p:List Nat),∀e∈keptP b k p,b < e.1
 | _,[],_,e,h=>by simp[keptP]at h
 | _,_:: _,[],e,h=>by simp[keptP]at h
 |b,x::r,q::z,e,h=>by
  rw[keptP]at h;cases h with
  |head=>show b < b+1;omega
  |tail _ h=>have:=keptP_gt (b+1) r z e h;omega
theorem keptP_sorted:∀ (b:Nat) (k:List (ByteArray×Nat)) (p:List Nat),(keptP b k p).Pairwise (fun x y=>x.1 < y.1)
 | _,[],_=>by simp[keptP]
 | _,_:: _,[]=>by simp[keptP]
 |b,x::r,q::z=>by rw[keptP,List.pairwise_cons];exact⟨fun e D=>keptP_gt (b+1) r z e D,keptP_sorted (b+1) r z⟩
theorem keptP_places:∀ (b:Nat) (k:List (ByteArray×Nat)) (p:List Nat),p.length=k.length->(keptP b k p).map (·.2.2)=p
 | _,[],[],_=>rfl
 |b,_::r,q::z,h=>by rw[keptP,List.map_cons,keptP_places (b+1) r z (by simpa using h)]
theorem keptP_bodies:∀ (b:Nat) (k:List (ByteArray×Nat)) (p:List Nat),p.length=k.length->(keptP b k p).map (·.2.1)=k.map (·.1)
 | _,[],[],_=>rfl
 |b,_::r,q::z,h=>by rw[keptP,List.map_cons,keptP_bodies (b+1) r z (by simpa using h)];rfl
theorem keptP_lastP (b:Nat) (k:List (ByteArray×Nat)) (p:List Nat) (h:p.length=k.length):lastP (keptP b k p) b=b+k.length:=by
 have hl:=keptP_length b k p h;unfold lastP;rw[List.getLast?_eq_getElem?];cases r:(keptP b k p)[(keptP b k p).length - 1]? with
 |none=>
  have:=List.getElem?_eq_none_iff.1 r;simp only
  omega
 |some e=>
  have h1:=(keptP_get _ _ _ _ _ r).1;have h2:=(List.getElem?_eq_some_iff.1 r).1;simp only
  omega
theorem insP_front {l:List Pe} {e:Pe} (h:∀y∈l,e.1 < y.1):insP l e=e::l:=by
 cases l with
 |nil=>rfl
 |cons y r=>have:=h y (.head _);rw[insP,if_neg (by omega),if_pos this]
theorem insP_filter {p F:Pe->Bool} {e:Pe}:∀ (l:List Pe),l.Pairwise (fun x y=>x.1 < y.1)->e∈l->p e=false->F e=true->(∀y∈l,y.1≠e.1->F y=p y)->l.filter F=insP (l.filter p) e
 |[],_,h,_,_,_=>by cases h
 |y::G,hs,r,h1,h2,h3=>by
  rw[List.pairwise_cons]at hs;by_cases I:y.1=e.1
  ·have O:y=e:=by
    cases r with
    |head=>rfl
    |tail _ r=>have:=hs.1 e r;omega
   subst O;have Q:G.filter F=G.filter p:=List.filter_congr fun z D=>h3 z (.tail _ D) (by have:=hs.1 z D;omega);rw[List.filter_cons_of_pos h2,List.filter_cons_of_neg (by simp[h1]),Q];exact(insP_front fun z D=>hs.1 z (List.mem_filter.1 D).1).symm
  ·have J:e∈G:=by
    cases r with
    |head=>exact absurd rfl I
    |tail _ r=>exact r
   have U:=hs.1 e J;have ih:=insP_filter G hs.2 J h1 h2 (fun z D=>h3 z (.tail _ D));have M:=h3 y (.head _) I;cases H:p y with
   |true=>rw[List.filter_cons_of_pos (by rw[M,H]),List.filter_cons_of_pos H,ih,insP,if_neg (by omega),if_neg (by omega)]
   |false=>rw[List.filter_cons_of_neg (by rw[M,H];simp),List.filter_cons_of_neg (by simp[H]),ih]
structure Places (a:Ag) (free:List Nat) (pl:Nat->List Nat):Prop where
 pn:∀i,i < 3->(pl i).length=(a.fl i).kept.length
 nd:(free++pl 0++pl 1++pl 2).Nodup
 lt:∀x∈free++pl 0++pl 1++pl 2,x < 24
 sum:free.length+a.room=24
structure AgDisk (L:List UInt8) (op ct hd:Nat) (a:Ag) (free:List Nat) (pl:Nat->List Nat):Prop where
 ok:DiskOk L op ct hd (fun i=>(a.fl i).base) 26
 rcs:∃rc:Nat->Rc,(∀x,x < 24->RecAt (sec L (2+x)) op (rc x))/\(∀i,i < 3->∀e∈keptP (a.fl i).base (a.fl i).kept (pl i),rc e.2.2=⟨i,e.1,e.2.1⟩)/\∀x∈free,(rc x).s < 3/\(rc x).q<=(a.fl (rc x).s).base
theorem nodupLt:∀ (n:Nat) (l:List Nat),l.Nodup->(∀x∈l,x < n)->l.length<=n
 |0,[],_,_=>Nat.le_refl _
 |0,x::l,_,h=>by have:=h x (.head _);omega
 |n+1,l,z,h=>by
  by_cases D:n∈l
  ·have h1:=nodupLt n (l.erase n) (z.erase n) (fun x r=>by
    have h2:=h x (List.mem_of_mem_erase r);have h3:x≠n:=fun e=>by subst e;exact(List.Nodup.not_mem_erase z) r
    omega)
   have:=List.length_erase_of_mem D;omega
  ·have:=nodupLt n l z (fun x r=>by have h2:=h x r;have h3:x≠n:=fun e=>D (by rw[<-e];exact r);omega);omega
theorem all_places {l:List Nat} {n:Nat} (z:l.Nodup) (hl:∀x∈l,x < n) (G:l.length=n):∀x,x < n->x∈l:=by
 intro x D;apply Classical.byContradiction;intro F;have:=nodupLt n (x::l) (List.nodup_cons.2 ⟨F,z⟩) (fun y r=>by
  cases r with
  |head=>exact D
  |tail _ r=>exact hl y r)
 simp at this;omega
theorem nodup_ix {l:List Nat} (r:l.Nodup) {i j x:Nat} (hi:l[i]? =some x) (hj:l[j]? =some x):i=j:=by
 obtain⟨h1,z⟩:=List.getElem?_eq_some_iff.1 hi;obtain⟨h2,D⟩:=List.getElem?_eq_some_iff.1 hj;rw[List.Nodup,List.pairwise_iff_getElem]at r;rcases Nat.lt_trichotomy i j with h|h|h
 ·exact absurd (z.trans D.symm) (r i j h1 h2 h)
 ·exact h
 ·exact absurd (D.trans z.symm) (r j i h2 h1 h)
theorem Places.all {a:Ag} {free:List Nat} {r:Nat->List Nat} (P:Places a free r):∀x,x < 24->x∈free\/∃i,i < 3/\x∈r i:=by
 have h0:=P.pn 0 (by omega);have h1:=P.pn 1 (by omega);have h2:=P.pn 2 (by omega);have hs:=P.sum;unfold Ag.room at hs;intro x z;have:=all_places P.nd P.lt (by simp;omega) x z;simp at this;rcases this with h|h|h|h
 ·exact .inl h
 ·exact .inr ⟨0,by omega,h⟩
 ·exact .inr ⟨1,by omega,h⟩
 ·exact .inr ⟨2,by omega,h⟩
theorem Places.apart {a:Ag} {free:List Nat} {D:Nat->List Nat} (P:Places a free D):(∀i,i < 3->(D i).Nodup)/\(∀x∈free,∀i,i < 3->x∉D i)/\∀i j,i < 3->j < 3->i≠j->∀x∈D i,x∉D j:=by
 have I:=P.nd;rw[List.nodup_append,List.nodup_append,List.nodup_append]at I;obtain⟨⟨⟨U,J,M⟩,O,G⟩,Q,F⟩:=I;refine⟨fun i hi=>?_,fun x r i hi z=>?_,fun i j hi hj H x r z=>?_⟩
 ·obtain rfl|rfl|rfl:i=0\/i=1\/i=2:=by omega
  ·exact J
  ·exact O
  ·exact Q
 ·obtain rfl|rfl|rfl:i=0\/i=1\/i=2:=by omega
  ·exact M x r x z rfl
  ·exact G x (by simp[r]) x z rfl
  ·exact F x (by simp[r]) x z rfl
 ·obtain rfl|rfl|rfl:i=0\/i=1\/i=2:=by omega
  all_goals obtain rfl|rfl|rfl:j=0\/j=1\/j=2:=by omega
  ·exact H rfl
  ·exact G x (by simp[r]) x z rfl
  ·exact F x (by simp[r]) x z rfl
  ·exact G x (by simp[z]) x r rfl
  ·exact H rfl
  ·exact F x (by simp[r]) x z rfl
  ·exact F x (by simp[z]) x r rfl
  ·exact F x (by simp[z]) x r rfl
  ·exact H rfl
theorem ldAll_disk {a:Ag} {free:List Nat} {r:Nat->List Nat} (P:Places a free r) (F:Nat->Rc) (ai:∀i,i < 3->∀e∈keptP (a.fl i).base (a.fl i).kept (r i),F e.2.2=⟨i,e.1,e.2.1⟩) (aj:∀x∈free,(F x).q<=(a.fl (F x).s).base):
  ∀ (n x:Nat) (l:Ld),x+n=24->(∀i,i < 3->l.sh i=(keptP (a.fl i).base (a.fl i).kept (r i)).filter fun e=>decide (e.2.2 < x))->
   ∃ab,ldAll (fun i=>(a.fl i).base) ((List.range n).map fun j=>F (x+j)) x l=some ab/\∀i,i < 3->ab.sh i=keptP (a.fl i).base (a.fl i).kept (r i):=by
 intro n;induction n with
 |zero=>
  intro x l ak hl;refine⟨l,rfl,fun i hi=>?_⟩;rw[hl i hi];refine List.filter_eq_self.2 fun e z=>?_;have H:e.2.2∈r i:=by rw[<-keptP_places (a.fl i).base (a.fl i).kept (r i) (P.pn i hi)];exact List.mem_map_of_mem z
  have:=P.lt e.2.2 (by
   obtain rfl|rfl|rfl:i=0\/i=1\/i=2:=by omega
   all_goals simp[H])
  simp;omega
 |succ n ih=>
  intro x l ak hl;obtain⟨ao,ap,aq⟩:=P.apart;rw[List.range_succ_eq_map,List.map_cons,List.map_map];have au:(List.range n).map ((fun j=>F (x+j)) ∘Nat.succ)=(List.range n).map fun j=>F (x+1+j):=by apply List.map_congr_left;intro j _;show F (x+(j+1))=F (x+1+j);congr 1;omega
  rw[au,Nat.add_zero];unfold ldAll;rcases P.all x (by omega)with ac|⟨i,hi,O⟩
  ·have av:=aj x ac;unfold ldStep;rw[if_pos av];simp only
   exact ih (x+1) {l with free:=l.free++[x]} (by omega) (fun i hi=>by
    show l.sh i= _;rw[hl i hi];refine List.filter_congr fun e z=>?_;have H:e.2.2∈r i:=by rw[<-keptP_places (a.fl i).base (a.fl i).kept (r i) (P.pn i hi)];exact List.mem_map_of_mem z
    have Q:e.2.2≠x:=fun U=>ap x ac i hi (by rw[<-U];exact H);rw[decide_eq_decide];omega)
  ·obtain⟨e,z,V⟩:∃e∈keptP (a.fl i).base (a.fl i).kept (r i),e.2.2=x:=by rw[<-keptP_places (a.fl i).base (a.fl i).kept (r i) (P.pn i hi)]at O;obtain⟨e,h1,h2⟩:=List.mem_map.1 O;exact⟨e,h1,h2⟩
   have ad:=ai i hi e z;rw[V]at ad;have aE:=keptP_gt _ _ _ e z;have ax:=keptP_sorted (a.fl i).base (a.fl i).kept (r i);have ay:∀y∈keptP (a.fl i).base (a.fl i).kept (r i),y.1=e.1->y=e:=by
    intro y D h1;obtain⟨I,X,G⟩:=List.mem_iff_getElem.1 D;obtain⟨J,Y,M⟩:=List.mem_iff_getElem.1 z;have k1:=(keptP_get _ _ _ I y (by rw[List.getElem?_eq_getElem X,G])).1;have k2:=(keptP_get _ _ _ J e (by rw[List.getElem?_eq_getElem Y,M])).1;have:I=J:=by omega
    subst this;rw[<-G,<-M]
   have az:∀y∈keptP (a.fl i).base (a.fl i).kept (r i),y.2.2=x->y=e:=by intro y D h1;obtain⟨I,X,G⟩:=List.mem_iff_getElem.1 D;obtain⟨J,Y,M⟩:=List.mem_iff_getElem.1 z;have k1:=(keptP_get _ _ _ I y (by rw[List.getElem?_eq_getElem X,G])).2.2;have k2:=(keptP_get _ _ _ J e (by rw[List.getElem?_eq_getElem Y,M])).2.2;rw[h1]at k1;rw[V]at k2;have:I=J:=nodup_ix (ao i hi) k1 k2;subst this;rw[<-G,<-M]
   unfold ldStep;rw[ad];simp only
   rw[if_neg (by omega),hl i hi];have aA:(((keptP (a.fl i).base (a.fl i).kept (r i)).filter fun e=>decide (e.2.2 < x)).map (·.1)).contains e.1=false:=by
    cases ah:(((keptP (a.fl i).base (a.fl i).kept (r i)).filter fun e=>decide (e.2.2 < x)).map (·.1)).contains e.1 with
    |false=>rfl
    |true=>rw[List.contains_iff_mem]at ah;obtain⟨y,D,G⟩:=List.mem_map.1 ah;obtain⟨aB,aC⟩:=List.mem_filter.1 D;have:=ay y aB G;subst this;simp at aC;omega
   rw[aA,if_neg (by simp)];simp only
   exact ih (x+1) {l with sh:=fun k=>if k=i then insP ((keptP (a.fl i).base (a.fl i).kept (r i)).filter fun e=>decide (e.2.2 < x)) (e.1,e.2.1,x)else l.sh k} (by omega) (fun k Z=>by
    show(if k=i then _ else l.sh k)= _;by_cases aa:k=i
    ·subst aa;rw[if_pos rfl];have aD:((e.1,e.2.1,x):Pe)=e:=by rw[<-V]
     rw[aD];exact(insP_filter _ ax z (by simp;omega) (by simp;omega) (fun y D Q=>by have:y.2.2≠x:=fun h1=>Q (by rw[az y D h1]);rw[decide_eq_decide];omega)).symm
    ·rw[if_neg aa,hl k Z];refine List.filter_congr fun y D=>?_;have H:y.2.2∈r k:=by rw[<-keptP_places (a.fl k).base (a.fl k).kept (r k) (P.pn k Z)];exact List.mem_map_of_mem D
     have Q:y.2.2≠x:=fun U=>aq k i Z hi aa x (by rw[<-U];exact H) O;rw[decide_eq_decide];omega)
end Mod
namespace Mod
def reop (a:Ag):Ag:={epoch:=a.epoch+1,ticks:=0,welcome:=false,fenced:=false,fl:=fun i=>if i < 3 then {base:=(a.fl i).base,kept:=(a.fl i).kept.map fun x=>(x.1,0),held:=[]}else {base:=0,kept:=[],held:=[]}}
theorem agLoad_of {L:List UInt8} {h:Hd} {at':Nat} {rs:List Rc} {l:Ld} (h1:openSt L=some (h,at',rs)) (h2:ldAll h.num rs 0 ld0=some l) (h3:∀i,i < 3->okP (l.sh i) (h.num i)=true):agLoad L=some (agOf h.o h.num l):=by
 unfold agLoad;rw[h1];simp only
 rw[h2];simp only
 rw[if_pos ⟨h3 0 (by omega),h3 1 (by omega),h3 2 (by omega)⟩]
theorem agLoad_some {L:List UInt8} {a:Ag} (h:agLoad L=some a):∃hd at' rs l,openSt L=some (hd,at',rs)/\ldAll hd.num rs 0 ld0=some l/\(∀i,i < 3->okP (l.sh i) (hd.num i)=true)/\a=agOf hd.o hd.num l:=by
 unfold agLoad at h;cases z:openSt L with
 |none=>rw[z]at h;cases h
 |some p=>
  obtain⟨hd,at',rs⟩:=p;rw[z]at h;simp only at h;cases hl:ldAll hd.num rs 0 ld0 with
  |none=>rw[hl]at h;cases h
  |some l=>
   rw[hl]at h;simp only at h;split at h
   ·rename_i r;cases h;refine⟨hd,at',rs,l,rfl,hl,fun i hi=>?_,rfl⟩;obtain rfl|rfl|rfl:i=0\/i=1\/i=2:=by omega
    ·exact r.1
    ·exact r.2.1
    ·exact r.2.2
   ·cases h
theorem num_fun (g:Nat->Nat) (op c i:Nat) (hi:i < 3):Hd.num ⟨op,c,g 0,g 1,g 2⟩ i=g i:=by
 unfold Hd.num;obtain rfl|rfl|rfl:i=0\/i=1\/i=2:=by omega
 all_goals rfl
theorem ldAll_num {g g':Nat->Nat} (z:∀i,i < 3->g i=g' i):∀ (rs:List Rc) (x:Nat) (l:Ld),(∀r∈rs,r.s < 3)->ldAll g rs x l=ldAll g' rs x l
 |[],_,_,_=>rfl
 |r::rs,x,l,h=>by
  have e:ldStep g x r l=ldStep g' x r l:=by unfold ldStep;rw[z r.s (h r (.head _))]
  unfold ldAll;rw[e];split
  ·rfl
  ·exact ldAll_num z rs (x+1) _ (fun D F=>h D (.tail _ F))
theorem AgDisk.loads {L:List UInt8} {op ct hd:Nat} {a:Ag} {free:List Nat} {D:Nat->List Nat} (G:AgDisk L op ct hd a free D) (P:Places a free D) (I:a.epoch=op) (J:op<=1073741824) (M:∀i,i < 3->(a.fl i).base+(a.fl i).kept.length<=1073741824):
  agLoad L=some (reop a):=by
 obtain⟨r,H,O,Q⟩:=G.rcs;obtain⟨c,U⟩:=G.ok.opens J r (fun x z=>H x z);obtain⟨l,hl,hs⟩:=ldAll_disk P r O (fun x z=>(Q x z).2) 24 0 ld0 (by omega) (fun i _=>(List.filter_eq_nil_iff.2 fun e _=>by simp).symm);have V:(List.range 24).map (fun j=>r (0+j))=(List.range (26 - 2)).map r:=by apply List.map_congr_left;intro j _;rw[Nat.zero_add]
 rw[V]at hl;have F:=fun i hi=>num_fun (fun i=>(a.fl i).base) op c i hi;have X:ldAll (Hd.num ⟨op,c,(a.fl 0).base,(a.fl 1).base,(a.fl 2).base⟩) ((List.range (26 - 2)).map r) 0 ld0=some l:=by
  rw[ldAll_num (g':=fun i=>(a.fl i).base) F _ _ _ ?_]
  ·exact hl
  ·intro aa Y;obtain⟨x,z,rfl⟩:=List.mem_map.1 Y;rcases H x (by simpa using z)with ⟨_,e⟩|⟨_,_,_,_,_,_,Z,_⟩
   ·rw[e];simp[rc0]
   ·exact Z.1
 rw[agLoad_of U X (fun i hi=>by rw[F i hi,hs i hi];have:=M i hi;unfold okP;rw[keptP_lastP _ _ _ (P.pn i hi),keptP_length _ _ _ (P.pn i hi)];simp;omega)];unfold agOf reop;congr 2
 ·rw[I]
 ·funext i;by_cases hi:i < 3
  ·rw[if_pos hi,if_pos hi,F i hi,hs i hi];congr 1;have:=keptP_bodies (a.fl i).base (a.fl i).kept (D i) (P.pn i hi);have h2:=congrArg (List.map fun b:ByteArray=>(b,0)) this;rw[List.map_map,List.map_map]at h2;exact h2
  ·rw[if_neg hi,if_neg hi]
theorem keptP_same:∀ (b:Nat) (k k':List (ByteArray×Nat)) (p:List Nat),k.map (·.1)=k'.map (·.1)->keptP b k p=keptP b k' p
 | _,[],[],_,_=>rfl
 |b,[],_:: _,p,h=>by simp at h
 |b,_:: _,[],p,h=>by simp at h
 |b,x::r,y::s,[],_=>by simp[keptP]
 |b,x::r,y::s,q::z,h=>by simp only[List.map_cons,List.cons.injEq]at h;rw[keptP,keptP,h.1,keptP_same (b+1) r s z h.2]
theorem keptP_app:∀ (b:Nat) (k k':List (ByteArray×Nat)) (p r:List Nat),p.length=k.length->keptP b (k++k') (p++r)=keptP b k p++keptP (b+k.length) k' r
 |b,[],k',[],r,_=>by simp[keptP]
 |b,[],k',q::D,r,h=>by simp at h
 |b,x::z,k',[],r,h=>by simp at h
 |b,x::z,k',q::D,r,h=>by show keptP b (x::(z++k')) (q::(D++r))= _;rw[keptP,keptP,keptP_app (b+1) z k' D r (by simpa using h),List.length_cons,show b+1+z.length=b+(z.length+1) by omega];rfl
theorem keptP_drop:∀ (n b:Nat) (k:List (ByteArray×Nat)) (p:List Nat),n<=k.length->p.length=k.length->keptP (b+n) (k.drop n) (p.drop n)=(keptP b k p).drop n
 |0,b,k,p,_,_=>rfl
 |n+1,b,[],p,h,_=>by simp at h
 |n+1,b,x::r,[],_,h=>by simp at h
 |n+1,b,x::r,q::z,h,h2=>by rw[List.drop_succ_cons,List.drop_succ_cons,keptP,List.drop_succ_cons,<-keptP_drop n (b+1) r z (by simpa using h) (by simpa using h2),show b+1+n=b+(n+1) by omega]
theorem AgDisk.same {L:List UInt8} {op ct hd:Nat} {a a':Ag} {free:List Nat} {D:Nat->List Nat} (F:AgDisk L op ct hd a free D) (r:∀i,i < 3->(a'.fl i).base=(a.fl i).base/\(a'.fl i).kept.map (·.1)=(a.fl i).kept.map (·.1)):AgDisk L op ct hd a' free D:=by
 obtain⟨G,H,J,M⟩:=F.rcs;obtain⟨k1,k2,k3,k4,k5,k6,k7,c,k8,k9,k10⟩:=F.ok;have h3:∀x,x < 24->(G x).s < 3:=fun x z=>by
  rcases H x z with ⟨_,e⟩|⟨_,_,_,_,_,_,O,_⟩
  ·rw[e];simp[rc0]
  ·exact O.1
 refine⟨⟨k1,k2,k3,k4,k5,k6,fun i hi=>by rw[(r i hi).1];exact k7 i hi,c,k8,?_,k10⟩,G,H,fun i hi e I=>?_,fun x z=>?_⟩
 ·rw[(r 0 (by omega)).1,(r 1 (by omega)).1,(r 2 (by omega)).1];exact k9
 ·rw[(r i hi).1,keptP_same _ _ _ _ (r i hi).2]at I;exact J i hi e I
 ·obtain⟨h1,h2⟩:=M x z;exact⟨h1,by rw[(r _ h1).1];exact h2⟩
theorem AgDisk.submit {L:List UInt8} {op ct hd:Nat} {a:Ag} {fr:List Nat} {x:Nat} {z:Nat->List Nat} (F:AgDisk L op ct hd a (fr++[x]) z) (P:Places a (fr++[x]) z) {s:Nat} (hs:s < 3) {b:ByteArray} (O:b.size<=20) (Q:ct+1 < 18446744073709551616) (Z:(a.fl s).base+(a.fl s).kept.length+1<=2147483647):
  AgDisk (setSec L (2+x) (sealR op (ct+1) ⟨s,(a.fl s).base+(a.fl s).kept.length+1,b⟩)) op (ct+1) hd (a.submit s b) fr (fun t=>if t=s then z s++[x]else z t):=by
 obtain⟨aa,ab,U,ac⟩:=F.rcs;have au:x < 24:=P.lt x (by simp);have H:(sealR op (ct+1) ⟨s,(a.fl s).base+(a.fl s).kept.length+1,b⟩).length=64:=length_sealR O;have hl:=F.ok.len;have I:∀j,(a.submit s b).fl j=if j=s then {a.fl s with kept:=(a.fl s).kept++[(b,0)]}else a.fl j:=fun j=>rfl
 have V:∀j,((a.submit s b).fl j).base=(a.fl j).base:=fun j=>by
  rw[I];split
  ·rename_i e;rw[e]
  ·rfl
 have ad:Rc.fits ⟨s,(a.fl s).base+(a.fl s).kept.length+1,b⟩:=⟨hs,by show 1<=(a.fl s).base+ _+1;omega,Z,O⟩;obtain⟨av,ah,ax⟩:=P.apart;have ai:∀i,i < 3->x∉z i:=ah x (by simp);have aj:x∉fr:=by have:=P.nd;rw[List.nodup_append,List.nodup_append,List.nodup_append]at this;obtain⟨⟨⟨X,_⟩,_⟩,_⟩:=this;rw[List.nodup_append]at X;intro ak;exact X.2.2 x ak x (by simp) rfl
 have ao:=F.ok.record (x:=x) H (by omega) Q;have ap:(fun i=>((a.submit s b).fl i).base)=fun i=>(a.fl i).base:=funext V;obtain⟨J,D⟩:∃J:Nat->Rc,∀y,J y=if y=x then⟨s,(a.fl s).base+(a.fl s).kept.length+1,b⟩else aa y:=⟨_,fun _=>rfl⟩
 refine⟨by rw[ap];exact ao,J,fun y G=>?_,fun i hi e r=>?_,fun y G=>?_⟩
 ·by_cases e:y=x
  ·subst e;rw[D,if_pos rfl,sec_set H (by omega)];exact .inr ⟨op,ct+1,F.ok.op1,Nat.le_refl _,F.ok.opm,Q,ad,rfl⟩
  ·rw[D,if_neg e,sec_other H (by omega) (by omega)];exact ab y G
 ·have Y:∀i,i < 3->∀e∈keptP (a.fl i).base (a.fl i).kept (z i),e.2.2≠x:=fun i hi e r h1=>by apply ai i hi;rw[<-keptP_places (a.fl i).base (a.fl i).kept (z i) (P.pn i hi),<-h1];exact List.mem_map_of_mem r
  by_cases M:i=s
  ·subst M;rw[I,if_pos rfl,if_pos rfl,keptP_app _ _ _ _ _ (P.pn i hi),List.mem_append]at r;rcases r with r|r
   ·rw[D,if_neg (Y i hi e r)];exact U i hi e r
   ·simp only[keptP,List.mem_singleton]at r;subst r;rw[D,if_pos rfl]
  ·rw[I,if_neg M,if_neg M]at r;rw[D,if_neg (Y i hi e r)];exact U i hi e r
 ·have aq:y≠x:=fun e=>aj (by rw[<-e];exact G);rw[D,if_neg aq,V];exact ac y (by simp[G])
theorem AgDisk.gone {L:List UInt8} {op ct hd:Nat} {a a':Ag} {free free':List Nat} {r pl':Nat->List Nat} (F:AgDisk L op ct hd a free r) (P:Places a free r) (n:Nat->Nat) (H:∀i,i < 3->n i<=(a.fl i).kept.length) (z:∀i,i < 3->(a'.fl i).base=(a.fl i).base+n i/\(a'.fl i).kept.map (·.1)=((a.fl i).kept.drop (n i)).map (·.1))
  (O:∀i,i < 3->pl' i=(r i).drop (n i)) (Q:∀x∈free',x∈free\/∃i,i < 3/\x∈ (r i).take (n i)) (U:ct+1 < 18446744073709551616) (V:∀i,i < 3->(a.fl i).base+(a.fl i).kept.length<=2147483647):
  AgDisk (setSec L (1 - hd) (sealH ⟨op,ct+1,(a'.fl 0).base,(a'.fl 1).base,(a'.fl 2).base⟩)) op (ct+1) (1 - hd) a' free' pl':=by
 obtain⟨X,Y,I,Z⟩:=F.rcs;have hl:=F.ok.len;refine⟨F.ok.numbers (g':=fun i=>(a'.fl i).base) (fun i hi=>by have:=V i hi;have:=H i hi;rw[(z i hi).1];omega) U,X,fun y G=>?_,fun i hi e J=>?_,fun y G=>?_⟩
 ·rw[sec_other (length_sealH _) (by omega) (by omega)];exact Y y G
 ·rw[(z i hi).1,keptP_same _ _ _ _ (z i hi).2,O i hi,keptP_drop _ _ _ _ (H i hi) (P.pn i hi)]at J;exact I i hi e (List.mem_of_mem_drop J)
 ·rcases Q y G with h|⟨i,hi,h⟩
  ·obtain⟨h1,h2⟩:=Z y h;exact⟨h1,by rw[(z _ h1).1];omega⟩
  ·obtain⟨j,hj,e⟩:=List.mem_iff_getElem.1 h;have aa:j < n i/\j < (r i).length:=by simp at hj;omega
   have ab:(r i)[j]? =some y:=by rw[List.getElem_take]at e;rw[List.getElem?_eq_getElem aa.2,e]
   have ad:=keptP_length (a.fl i).base (a.fl i).kept (r i) (P.pn i hi);have ah:=P.pn i hi;have M:j < (keptP (a.fl i).base (a.fl i).kept (r i)).length:=by omega
   obtain⟨g1,g2,D⟩:=keptP_get _ _ _ j _ (List.getElem?_eq_getElem M);rw[ab]at D;have ac:(keptP (a.fl i).base (a.fl i).kept (r i))[j].2.2=y:=by injection D with D;exact D.symm
   have:=I i hi _ (List.getElem_mem M);rw[ac]at this;rw[this];refine⟨hi,?_⟩;show(keptP (a.fl i).base (a.fl i).kept (r i))[j].1<=(a'.fl i).base;rw[g1,(z i hi).1];omega
end Mod
namespace Mod
theorem insP_perm {e:Pe}:∀ {l:List Pe},(∀y∈l,y.1≠e.1)->(insP l e).Perm (e::l)
 |[],_=>List.Perm.refl _
 |y::r,h=>by
  have h1:=h y (.head _);unfold insP;rw[if_neg (fun z=>h1 z.symm)];split
  ·exact List.Perm.refl _
  ·exact((insP_perm (fun D F=>h D (.tail _ F))).cons y).trans (List.Perm.swap e y r)
theorem insP_sorted {e:Pe}:∀ {l:List Pe},l.Pairwise (fun x y=>x.1 < y.1)->(∀y∈l,y.1≠e.1)->(insP l e).Pairwise (fun x y=>x.1 < y.1)
 |[],_,_=>by simp[insP]
 |y::F,hs,h=>by
  have h1:=h y (.head _);rw[List.pairwise_cons]at hs;unfold insP;rw[if_neg (fun G=>h1 G.symm)];split
  ·rename_i D;rw[List.pairwise_cons,List.pairwise_cons];refine⟨fun z r=>?_,hs.1,hs.2⟩;cases r with
   |head=>exact D
   |tail _ r=>exact Nat.lt_trans D (hs.1 z r)
  ·rename_i D;rw[List.pairwise_cons];refine⟨fun z r=>?_,insP_sorted hs.2 (fun z r=>h z (.tail _ r))⟩;have:=(insP_perm (fun z r=>h z (.tail _ r)):(insP F e).Perm (e::F)).subset r;cases this with
   |head=>omega
   |tail _ r=>exact hs.1 z r
structure LdInv (g:Nat->Nat) (rs:List Rc) (x:Nat) (l:Ld):Prop where
 srt:∀i,(l.sh i).Pairwise (fun y z=>y.1 < z.1)
 rcd:∀i,∀e∈l.sh i,g i < e.1/\e.2.2 < x/\rs[e.2.2]? =some ⟨i,e.1,e.2.1⟩
 fre:∀y∈l.free,y < x/\∃r,rs[y]? =some r/\r.q<=g r.s
 nd:(l.free++(l.sh 0).map (·.2.2)++(l.sh 1).map (·.2.2)++(l.sh 2).map (·.2.2)).Nodup
 sum:l.free.length+(l.sh 0).length+(l.sh 1).length+(l.sh 2).length=x
theorem ldInv_zero (g:Nat->Nat) (rs:List Rc):LdInv g rs 0 ld0:=
 ⟨fun i=>List.Pairwise.nil,fun i e r=>by simp[ld0]at r,fun y z=>by simp[ld0]at z,by simp[ld0],rfl⟩
theorem LdInv.step {g:Nat->Nat} {rs:List Rc} {x:Nat} {l Q:Ld} {r:Rc} (h:LdInv g rs x l) (U:rs[x]? =some r) (hs:r.s < 3) (hl:ldStep g x r l=some Q):LdInv g rs (x+1) Q:=by
 have Y:∀y∈l.free++(l.sh 0).map (·.2.2)++(l.sh 1).map (·.2.2)++(l.sh 2).map (·.2.2),y < x:=by
  intro y z;simp only[List.mem_append,List.mem_map]at z;rcases z with ((z|⟨e,D,rfl⟩)|⟨e,D,rfl⟩)|⟨e,D,rfl⟩
  ·exact(h.fre y z).1
  ·exact(h.rcd 0 e D).2.1
  ·exact(h.rcd 1 e D).2.1
  ·exact(h.rcd 2 e D).2.1
 have Z:x∉l.free++(l.sh 0).map (·.2.2)++(l.sh 1).map (·.2.2)++(l.sh 2).map (·.2.2):=fun H=>Nat.lt_irrefl _ (Y x H);have V:=List.nodup_cons.2 ⟨Z,h.nd⟩;unfold ldStep at hl;split at hl
 ·rename_i M;cases hl;refine⟨h.srt,fun i e D=>⟨(h.rcd i e D).1,Nat.lt_succ_of_lt (h.rcd i e D).2.1,(h.rcd i e D).2.2⟩,fun y z=>?_,?_,?_⟩
  ·rw[List.mem_append,List.mem_singleton]at z;rcases z with z|rfl
   ·exact⟨Nat.lt_succ_of_lt (h.fre y z).1,(h.fre y z).2⟩
   ·exact⟨Nat.lt_succ_self _,r,U,M⟩
  ·refine(List.Perm.nodup_iff ?_).2 V;simp only[List.append_assoc];exact List.perm_middle
  ·have:=h.sum;simp only[List.length_append,List.length_singleton];omega
 ·rename_i M;split at hl
  ·cases hl
  ·rename_i aa;cases hl;have X:∀y∈l.sh r.s,y.1≠r.q:=fun y z e=>aa (by rw[List.contains_iff_mem];exact List.mem_map.2 ⟨y,z,e⟩);have O:(insP (l.sh r.s) (r.q,r.b,x)).Perm ((r.q,r.b,x)::l.sh r.s):=insP_perm X;have F:((insP (l.sh r.s) (r.q,r.b,x)).map (·.2.2)).Perm (x::(l.sh r.s).map (·.2.2)):=O.map _;refine⟨fun i=>?_,fun i e D=>?_,fun y z=>⟨Nat.lt_succ_of_lt (h.fre y z).1,(h.fre y z).2⟩,?_,?_⟩
   ·show List.Pairwise _ (if i=r.s then insP (l.sh r.s) (r.q,r.b,x)else l.sh i);split
    ·exact insP_sorted (h.srt r.s) X
    ·exact h.srt i
   ·have G:e∈ (if i=r.s then insP (l.sh r.s) (r.q,r.b,x)else l.sh i):=D;by_cases I:i=r.s
    ·rw[if_pos I]at G;have:=O.subset G;cases this with
     |head=>rw[I];exact⟨Nat.lt_of_not_le M,Nat.lt_succ_self _,U⟩
     |tail _ H=>rw[I];exact⟨(h.rcd r.s e H).1,Nat.lt_succ_of_lt (h.rcd r.s e H).2.1,(h.rcd r.s e H).2.2⟩
    ·rw[if_neg I]at G;exact⟨(h.rcd i e G).1,Nat.lt_succ_of_lt (h.rcd i e G).2.1,(h.rcd i e G).2.2⟩
   ·refine(List.Perm.nodup_iff ?_).2 V;show(l.free++(if 0=r.s then insP (l.sh r.s) (r.q,r.b,x)else l.sh 0).map (·.2.2)++(if 1=r.s then insP (l.sh r.s) (r.q,r.b,x)else l.sh 1).map (·.2.2)++(if 2=r.s then insP (l.sh r.s) (r.q,r.b,x)else l.sh 2).map (·.2.2)).Perm _;obtain e|e|e:r.s=0\/r.s=1\/r.s=2:=by omega
    ·rw[e]at F ⊢;rw[if_pos rfl,if_neg (by omega),if_neg (by omega)];simp only[List.append_assoc];exact((List.Perm.append_left _ (List.Perm.append_right _ F))).trans List.perm_middle
    ·rw[e]at F ⊢;rw[if_neg (by omega),if_pos rfl,if_neg (by omega)];simp only[List.append_assoc];refine(List.Perm.append_left _ (List.Perm.append_left _ (List.Perm.append_right _ F))).trans ?_;rw[List.cons_append,<-List.append_assoc l.free,<-List.append_assoc l.free];exact List.perm_middle
    ·rw[e]at F ⊢;rw[if_neg (by omega),if_neg (by omega),if_pos rfl];exact(List.Perm.append_left _ F).trans List.perm_middle
   ·have J:=O.length_eq;rw[List.length_cons]at J;have:=h.sum;show l.free.length+(if 0=r.s then insP (l.sh r.s) (r.q,r.b,x)else l.sh 0).length+(if 1=r.s then insP (l.sh r.s) (r.q,r.b,x)else l.sh 1).length+(if 2=r.s then insP (l.sh r.s) (r.q,r.b,x)else l.sh 2).length=x+1;obtain e|e|e:r.s=0\/r.s=1\/r.s=2:=by omega
    ·rw[e]at J ⊢;rw[if_pos rfl,if_neg (by omega),if_neg (by omega)];omega
    ·rw[e]at J ⊢;rw[if_neg (by omega),if_pos rfl,if_neg (by omega)];omega
    ·rw[e]at J ⊢;rw[if_neg (by omega),if_neg (by omega),if_pos rfl];omega
theorem ldInv_all {g:Nat->Nat} {rs:List Rc}:∀ (r:List Rc) (x:Nat) (l z:Ld),(∀j,r[j]? =rs[x+j]?)->(∀D∈r,D.s < 3)->LdInv g rs x l->ldAll g r x l=some z->LdInv g rs (x+r.length) z
 |[],x,l,z,_,_,h,hl=>by cases hl;exact h
 |D::r,x,l,z,G,hs,h,hl=>by
  unfold ldAll at hl;cases F:ldStep g x D l with
  |none=>rw[F]at hl;cases hl
  |some H=>rw[F]at hl;have h0:=G 0;rw[List.getElem?_cons_zero,Nat.add_zero]at h0;have:=ldInv_all r (x+1) H z (fun j=>by have:=G (j+1);rw[List.getElem?_cons_succ]at this;rw[this];congr 1;omega) (fun I J=>hs I (.tail _ J)) (h.step h0.symm (hs D (.head _)) F) hl;rw[List.length_cons,show x+(r.length+1)=x+1+r.length by omega];exact this
theorem sorted_room:∀ (r:List Pe) (c u:Nat),c<=u->r.Pairwise (fun x y=>x.1 < y.1)->(∀y∈r,c < y.1/\y.1<=u)->c+r.length<=u
 |[],c,u,h,_,_=>by simpa using h
 |y::r,c,u,h,hs,z=>by rw[List.pairwise_cons]at hs;have h1:=z y (.head _);have:=sorted_room r y.1 u h1.2 hs.2 (fun D F=>⟨hs.1 D F,(z D (.tail _ F)).2⟩);rw[List.length_cons];omega
theorem keptP_of:∀ (l:List Pe) (b:Nat),l.Pairwise (fun x y=>x.1 < y.1)->(∀e∈l,b < e.1/\e.1<=b+l.length)->keptP b (l.map fun e=>(e.2.1,0)) (l.map (·.2.2))=l
 |[],_,_,_=>rfl
 |e::D,b,hs,F=>by
  rw[List.pairwise_cons]at hs;have h1:=F e (.head _);rw[List.length_cons]at h1;have h2:=sorted_room D e.1 (b+(D.length+1)) h1.2 hs.2 (fun r z=>⟨hs.1 r z,by have:=(F r (.tail _ z)).2;rw[List.length_cons]at this;exact this⟩);have h3:e.1=b+1:=by omega
  rw[List.map_cons,List.map_cons,keptP];have:=keptP_of D (b+1) hs.2 (fun r z=>⟨by have:=hs.1 r z;omega,by have:=(F r (.tail _ z)).2;rw[List.length_cons]at this;omega⟩);rw[this,<-h3]
theorem lastP_bound {l:List Pe} {b:Nat} (hs:l.Pairwise (fun x y=>x.1 < y.1)):∀e∈l,e.1<=lastP l b:=by
 intro e z;obtain⟨j,hj,r⟩:=List.mem_iff_getElem.1 z;unfold lastP;rw[List.getLast?_eq_getElem?,List.getElem?_eq_getElem (by omega:l.length - 1 < l.length)];simp only
 by_cases h:j=l.length - 1
 ·subst h;rw[<-r];omega
 ·have:=List.pairwise_iff_getElem.1 hs j (l.length - 1) hj (by omega) (by omega);rw[r]at this;omega
def plOf (l:Ld) (i:Nat):List Nat:=(l.sh i).map (·.2.2)
theorem agDisk_opened {L:List UInt8} {hd:Hd} {at':Nat} {rs:List Rc} {l:Ld} (U:openSt L=some (hd,at',rs)) (hl:ldAll hd.num rs 0 ld0=some l) (V:∀i,i < 3->okP (l.sh i) (hd.num i)=true) (X:L.length=1664):
  AgDisk (openL L hd at') (hd.o+1) 1 (1 - at') (agOf hd.o hd.num l) l.free (plOf l)/\Places (agOf hd.o hd.num l) l.free (plOf l)/\(∀i,i < 3->keptP (hd.num i) ((l.sh i).map fun e=>(e.2.1,0)) (plOf l i)=l.sh i):=by
 obtain⟨Y,J⟩:=openSt_some U;rw[X]at J;obtain⟨Z,M⟩:=recsFrom_some _ _ J;have aa:∀x,x < 24->RecAt (sec L (2+x)) (hd.o+1) (rs.getD x rc0):=fun x r=>by obtain⟨k1,k2⟩:=M x r;rw[Nat.zero_add]at k1 k2;rw[List.getD_eq_getElem?_getD,k2];exact(recAt_ok k1).up (by omega)
 have O:∀H∈rs,H.s < 3:=fun H J=>by obtain⟨x,r,e⟩:=List.mem_iff_getElem.1 J;obtain⟨k1,k2⟩:=M x (by omega);rw[List.getElem?_eq_getElem r,e]at k2;cases k2;exact(recOk_small k1).1
 have z:=ldInv_all (g:=hd.num) (rs:=rs) rs 0 ld0 l (fun j=>by rw[Nat.zero_add]) O (ldInv_zero _ _) hl;have ab:rs.length=24:=Z;rw[ab,Nat.zero_add]at z;have F:=opened_ok Y (m:=26) (by omega) (by omega);have Q:∀i,i < 3->keptP (hd.num i) ((l.sh i).map fun e=>(e.2.1,0)) (plOf l i)=l.sh i:=fun i hi=>by refine keptP_of _ _ (z.srt i) (fun e D=>⟨(z.rcd i e D).1,?_⟩);have h1:=V i hi;unfold okP at h1;simp only[Bool.and_eq_true,decide_eq_true_eq]at h1;rw[<-h1.2];exact lastP_bound (z.srt i) e D
 have G:∀i,i < 3->((agOf hd.o hd.num l).fl i).base=hd.num i:=fun i hi=>by unfold agOf;simp only;rw[if_pos hi]
 have I:∀i,i < 3->((agOf hd.o hd.num l).fl i).kept=(l.sh i).map fun e=>(e.2.1,0):=fun i hi=>by unfold agOf;simp only;rw[if_pos hi]
 refine⟨⟨⟨F.len,F.two,F.hd1,F.op1,F.opm,F.ctm,fun i hi=>by rw[G i hi];exact F.sm i hi,?_⟩,fun x=>rs.getD x rc0,fun x r=>?_,fun i hi e D=>?_,fun x r=>?_⟩,⟨fun i hi=>?_,z.nd,fun x r=>?_,?_⟩,Q⟩
 ·rw[G 0 (by omega),G 1 (by omega),G 2 (by omega)];exact F.hs
 ·rw[openL_other (m:=26) (by omega) (by omega) (by omega)];exact aa x r
 ·rw[G i hi,I i hi,Q i hi]at D;show rs.getD e.2.2 rc0= _;rw[List.getD_eq_getElem?_getD,(z.rcd i e D).2.2];rfl
 ·obtain⟨_,H,h1,h2⟩:=z.fre x r;have:rs.getD x rc0=H:=by rw[List.getD_eq_getElem?_getD,h1];rfl
  show(rs.getD x rc0).s < 3/\(rs.getD x rc0).q<=((agOf hd.o hd.num l).fl (rs.getD x rc0).s).base;rw[this];have h3:=O H (List.mem_of_getElem? h1);exact⟨h3,by rw[G _ h3];exact h2⟩
 ·rw[I i hi];simp[plOf]
 ·simp only[List.mem_append,plOf,List.mem_map]at r;rcases r with ((r|⟨e,D,rfl⟩)|⟨e,D,rfl⟩)|⟨e,D,rfl⟩
  ·exact(z.fre x r).1
  ·exact(z.rcd 0 e D).2.1
  ·exact(z.rcd 1 e D).2.1
  ·exact(z.rcd 2 e D).2.1
 ·have:=z.sum;unfold Ag.room;rw[I 0 (by omega),I 1 (by omega),I 2 (by omega)];simp only[List.length_map];omega
end Mod
end Go.Proofs.YtamafdcnbcoegabGreat
namespace Go.Proofs.YtamafdcnbcoegabGreat
open Go.RowKit
structure fi' (op ct n:Nat) (st:Mod.Stv) (a:Mod.Ag) (free:List Nat) (pl:Nat->List Nat):Prop where
 dead:st.dk.dead=false
 arm:st.dk.armed=n
 op:st.opening=op
 ct:st.count<=ct
 dk:Mod.AgDisk st.dk.bytes st.opening st.count st.head a free pl
structure wx' (op:Nat) (st:Mod.Stv) (a:Mod.Ag):Prop where
 dead:st.dk.dead=true
 op:st.opening=op
 dk:∃ct hd free pl,Mod.AgDisk st.dk.bytes st.opening ct hd a free pl/\Mod.Places a free pl
theorem aQ'.places {a:Mod.Ag} {op:Nat} {g:Nat->Nat} {free:List Nat} {sh:Nat->List (Nat×Value)} {z:Nat->List Nat} (r:aQ' a op g free sh z):Mod.Places a free z:=⟨r.pn,r.nd,r.lt,r.sum⟩
theorem nr' {op ct n:Nat} {st:Mod.Stv} {a:Mod.Ag} {free:List Nat} {r:Nat->List Nat} (h:fi' op ct n st a free r) (z:ct+1 < 18446744073709551616):st.next=st.count+1:=by
 have:=h.ct;unfold Mod.Stv.next
 omega
theorem vo' {op ct n:Nat} {st:Mod.Stv} {a:Mod.Ag} {fr:List Nat} {q:Nat} {r:Nat->List Nat} (h:fi' op ct n st a (fr++[q]) r) (G:ct+1000 < 18446744073709551616) (z:n≠1) (P:Mod.Places a (fr++[q]) r) {i:Nat} (hi:i < 3) {s:ByteArray} (D:s.size<=20) (H:(a.fl i).base+(a.fl i).kept.length < 2147483647):
  (st.putRecord q i ((a.fl i).base+(a.fl i).kept.length+1) s.data.toList).1=0/\fi' op (ct+1) (n - 1) (st.putRecord q i ((a.fl i).base+(a.fl i).kept.length+1) s.data.toList).2 (a.submit i s) fr (fun t=>if t=i then r i++[q]else r t):=by
 have F:=nr' h (by omega);have hd:=h.dk.submit P hi D (by have:=h.ct;omega) (by omega);have h1:=h.dead;have h2:=h.arm;have h3:=h.ct;unfold Mod.Stv.putRecord Mod.Dk.put;rw[if_neg (by rw[h1];simp),if_neg (by rw[h2];exact z),F];exact⟨rfl,rfl,by show st.dk.armed - 1=n - 1;rw[h2],h.op,by show st.count+1<=ct+1;omega,hd⟩
theorem vp' {op ct:Nat} {st:Mod.Stv} {a:Mod.Ag} {free:List Nat} {r:Nat->List Nat} (h:fi' op ct 1 st a free r) (P:Mod.Places a free r) (k s q:Nat) (b:List UInt8):
  (st.putRecord k s q b).1=4/\wx' op (st.putRecord k s q b).2 a:=by
 have h1:=h.dead;have h2:=h.arm;unfold Mod.Stv.putRecord Mod.Dk.put;rw[if_neg (by rw[h1];simp),if_pos h2];exact⟨rfl,rfl,h.op,_,_,free,r,h.dk,P⟩
theorem vq' {op ct:Nat} {st:Mod.Stv} {a:Mod.Ag} {free:List Nat} {r:Nat->List Nat} (h:fi' op ct 1 st a free r) (P:Mod.Places a free r) (x y z:Nat):
  (st.putNumbers x y z).1=4/\wx' op (st.putNumbers x y z).2 a:=by
 have h1:=h.dead;have h2:=h.arm;unfold Mod.Stv.putNumbers Mod.Dk.put;rw[if_neg (by rw[h1];simp),if_pos h2];exact⟨rfl,rfl,h.op,_,_,free,r,h.dk,P⟩
theorem fi'.sound {op ct:Nat} {st:Mod.Stv} {a:Mod.Ag} {free:List Nat} {r:Nat->List Nat} (h:fi' op ct 0 st a free r):xb' st:=⟨h.dead,h.arm⟩
def xN' (op ct n:Nat) (w x:World) (p:Nat) (a:Mod.Ag) (c:Av):Prop:=
 ∃g free sh r st,aA' w x p g a.ticks a.welcome a.fenced free sh st c/\fi' op ct n st a free r/\aQ' a st.opening g free sh r
def fp' (op:Nat) (w x:World) (p:Nat) (a:Mod.Ag) (c:Av):Prop:=∃g free sh st,aA' w x p g a.ticks a.welcome a.fenced free sh st c/\wx' op st a
section
variable {w x y:World} {p:Nat} {g:Nat->Nat} {tk:Nat} {wel fen:Bool} {free:List Nat} {sh:Nat->List (Nat×Value)} {st st2:Mod.Stv} {c:Av} {a:Mod.Ag} {op ct n:Nat} {pl:Nat->List Nat}
theorem ox' (D:aC' w p g a.ticks a.welcome a.fenced free sh st c) (hs:st.dk.dead=false) (M:aQ' a st.opening g free sh pl) (i:Int) (s:ByteArray) (G:a.refuses i s.size≠0):
  Calls Tryz.prog 50 #[A' p, .int .i64 i, .string s] w fun F X=>F= .returned (.int .i64 (a.refuses i s.size))/\X=w:=by
 have c0:w.cell? ⟨p,0,none⟩=some (A' c.s):=by rw[t' D.ks.blk,D.ks.a0]
 have I:=ai' D.stt;rw[hs]at I;have J:=y' I;obtain⟨Y,cap,O,_⟩:=D.ks.fr.shape;have Z:w.cell? ⟨p,22,none⟩=some (.slice Y free.length cap):=by rw[t' D.ks.blk,D.ks.af,O]
 have Q:=M.sum;obtain⟨m,U⟩:∃m,m=free.length:=⟨_,rfl⟩;rw[<-U]at Z Q;have H:=y' (bj' i w);obtain⟨e,r⟩:∃e,e=a.refuses i s.size:=⟨_,rfl⟩;rw[<-r];have aa:(Wire.isStr i=false/\e=5)\/(Wire.isStr i=true/\20 < s.size/\e=6)\/(Wire.isStr i=true/\¬20 < s.size/\m=0/\e=7):=by
  unfold Mod.Ag.refuses at r G;by_cases h1:i < 0\/3<=i
  ·rw[if_pos h1]at r;refine .inl ⟨?_,r⟩;cases ab:Wire.isStr i
   ·rfl
   ·simp[Wire.isStr]at ab;omega
  ·rw[if_neg h1]at r G;have V:Wire.isStr i=true:=by simp[Wire.isStr];omega
   by_cases h2:20 < s.size
   ·rw[if_pos h2]at r;exact .inr (.inl ⟨V,h2,r⟩)
   ·rw[if_neg h2]at r G;by_cases h3:24<=a.room
    ·rw[if_pos h3]at r;exact .inr (.inr ⟨V,h2,by omega,r⟩)
    ·rw[if_neg h3]at G;exact absurd rfl G
 clear D I O U G r M Q;unfold A' at *;rcases aa with ⟨h1,rfl⟩|⟨h1,h2,rfl⟩|⟨h1,h2,rfl,rfl⟩
 ·rw[h1]at H;go_enter Tryz.func50,Tryz.ntmps50;go_wp2_with (first|(go_at_call 66;refine(i' J).mono ?_;rintro F y ⟨rfl,z⟩;obtain rfl:w=y:=z.symm)|(go_at_call 71;refine(i' H).mono ?_;rintro F y ⟨rfl,z⟩;obtain rfl:w=y:=z.symm));go_ret;exact⟨rfl,rfl⟩
 ·rw[h1]at H;have ac:(20:Int) < (s.size:Int):=by omega
  go_enter Tryz.func50,Tryz.ntmps50;go_wp2_with (first|(go_at_call 66;refine(i' J).mono ?_;rintro F y ⟨rfl,z⟩;obtain rfl:w=y:=z.symm)|(go_at_call 71;refine(i' H).mono ?_;rintro F y ⟨rfl,z⟩;obtain rfl:w=y:=z.symm));go_ret;exact⟨rfl,rfl⟩
 ·rw[h1]at H;have ac:¬ (20:Int) < (s.size:Int):=by omega
  go_enter Tryz.func50,Tryz.ntmps50;go_wp2_with (first|(go_at_call 66;refine(i' J).mono ?_;rintro F y ⟨rfl,z⟩;obtain rfl:w=y:=z.symm)|(go_at_call 71;refine(i' H).mono ?_;rintro F y ⟨rfl,z⟩;obtain rfl:w=y:=z.symm));go_ret;exact⟨rfl,rfl⟩
theorem oy' (r:aC' w p g a.ticks a.welcome a.fenced free sh st c) (hs:fi' op ct n st a free pl) (aT:ct+1000 < 18446744073709551616) (aU:n≠1) (H:aQ' a st.opening g free sh pl) {i:Nat} (hi:i < 3) (s:ByteArray) (aB:s.size<=20) (bB:a.room < 24) (aC:(a.fl i).base+(a.fl i).kept.length < 2147483647):
  Calls Tryz.prog 50 #[A' p, .int .i64 i, .string s] w fun Z z=>Z= .returned (.int .i64 0)/\xN' op (ct+1) (n - 1) w z p (a.submit i s) c:=by
 have aV:free≠ []:=fun h=>by have:=H.sum;rw[h]at this;simp at this;omega
 obtain⟨fr,q,rfl⟩:∃fr q,free=fr++[q]:=by
  rcases List.eq_nil_or_concat free with h|⟨l,x,h⟩
  ·exact absurd h aV
  ·exact⟨l,x,by rw[h,List.concat_eq_append]⟩
 have bT:q < 24:=H.lt q (by simp);have bC:=vo' hs aT aU H.places hi aB aC;have aW:=hs.dead;clear aT aU hs;have c0:w.cell? ⟨p,0,none⟩=some (A' c.s):=by rw[t' r.ks.blk,r.ks.a0]
 have aD:=ai' r.stt;rw[aW]at aD;have aX:=y' aD;have aa:Wire.isStr (i:Int)=true:=by simp[Wire.isStr];omega
 have aE:=bj' (i:Int) w;rw[aa]at aE;have aY:=y' aE;obtain⟨bU,cap,I,_,_,aF⟩:=r.ks.fr.shape;have aZ:(fr++[q]).length=fr.length+1:=by simp
 rw[aZ]at I aF;obtain⟨ba,bb,rfl,bc⟩:=aF (by omega);have be:w.cell? ⟨p,22,none⟩=some (.slice (some ⟨ba,bb,none⟩) (fr.length+1) cap):=by rw[t' r.ks.blk,r.ks.af,I]
 have bf:w.cell? ⟨ba,bb+fr.length,none⟩=some (.int .i64 q):=by rw[bc fr.length (by omega)];simp[J']
 have bD:fr.length+1<=24:=by have:=H.sum;simp at this;omega
 obtain⟨m,D⟩:∃m,m=fr.length:=⟨_,rfl⟩;rw[<-D]at be bf bD I;have bV:IntKind.i64.wrap (((m+1:Nat):Int) - 1)=(m:Int):=by rw[IntKind.wrap_i64];omega
 have bW:IntKind.i64.wrap ((m:Int)+1 - 1)=(m:Int):=by rw[IntKind.wrap_i64];omega
 have bX:IntKind.i64.wrap (m:Int)=(m:Int):=by rw[IntKind.wrap_i64];omega
 have bY:(0:Int)<=(m:Int):=by omega
 have bZ:(m:Int) < ((m+1:Nat):Int):=by omega
 have ca:(m:Int) < (m:Int)+1:=by omega
 have cb:(((m+1:Nat):Int) ==0)=false:=by simp;omega
 have cc:((m:Int)+1==0)=false:=by simp;omega
 obtain⟨ao,J⟩:∃ao,ao=(a.fl i).base+(a.fl i).kept.length:=⟨_,rfl⟩;have aG:=fun n=>cZ' (r.below (below_drewN (Below.refl _ _) n)) H hi (H.bs i hi);rw[<-J]at aG aC;have bg:=fun n=>y' (aG n);have bh:IntKind.i64.wrap ((ao:Int)+1)=((ao+1:Nat):Int):=by rw[IntKind.wrap_i64];omega
 obtain⟨G,M⟩:∃G,G=ao+1:=⟨_,rfl⟩;rw[<-M]at bh;obtain⟨h0,O⟩:=bC;rw[<-J,<-M]at h0 O;have bE:s.data.toList.length=s.size:=by simp
 have Q:=gF' (st:=st) q i G s.data.toList (by omega) (by rw[r.len];omega);rw[r.len]at Q;have aH:=fun y (ab:Below w.heap.size w y)=>ds' y c.s c.dp st c.dlv c.duv (r.below ab).stt q i G s (by rw[r.len];omega) (by omega) (by omega) aB;have ac:(st.putRecord q i G s.data.toList).2.opening=st.opening:=rfl;obtain⟨st2,aI⟩:∃st2,st2=(st.putRecord q i G s.data.toList).2:=⟨_,rfl⟩;rw[<-aI]at O Q ac;rw[h0,<-aI]at aH;have bi:=fun y ab=>y' (aH y ab);have cd:¬ (20:Int) < (s.size:Int):=by omega
 have ce:(0:Int)<=(i:Int):=by omega
 have cf:(i:Int) < 3:=by omega
 have aJ:=y' (And.intro O (And.intro Q (And.intro ac (And.intro D (And.intro J (And.intro M I))))));have av:=y' H;have bF:=y' r;have bG:=lt_of_block r.ks.blk;have bj:=fun y=>y' (oj' s y (by omega));clear r H aD aE aa aH O Q ac D J M I aG h0 aI aF bc bE aZ aV bB aC aB aW;unfold A' at *;go_enter Tryz.func50,Tryz.ntmps50;go_upto_region 9 with (first|(go_at_call 66;refine(i' aX).mono ?_;rintro Z y ⟨rfl,aK⟩;obtain rfl:w=y:=aK.symm)|(go_at_call 71;refine(i' aY).mono ?_;rintro Z y ⟨rfl,aK⟩;obtain rfl:w=y:=aK.symm));go_quiet (first|(go_at_call 79;exact Calls.quiet_of (i' (bg _))));go_upto_region 10 with fail;refine H' (fun x=>Below w.heap.size w x) (below_drewN (Below.refl _ _) _) ?_;clear bf aX aY bg bh;intro x ax;have bH:=(ax.cell (p:=⟨p,0,none⟩) bG).trans c0;have bk:=y' ax;have bl:=y' (i' (bi x ax));clear ax c0 be bi;go_upto_region 13 with (go_at_call 80;refine(i' bl).mono ?_;rintro Z y ⟨rfl,cg,k1,k2,k3⟩);obtain⟨O,Q,ac,D,J,M,I⟩:=i' aJ;have bm:=dG' ((i' bF).below (i' bk)) k1 k2 k3 Q;have ay:=y' (bm.behind (i' bk));refine H' (fun z=>aA' w z p g a.ticks a.welcome a.fenced (fr++[q]) sh st2 c) (i' ay) ?_;clear k1 k2 k3 bm ay bH bl O Q ac D J M I;rintro z ⟨c1,U,bn,bo,ad,ah⟩;obtain⟨ch,ai,ap,bI,_,bp⟩:=U.ks.fr.shape;obtain⟨aj,ak,rfl,_⟩:=bp (by simp);have D:=(i' aJ).2.2.2.1;have aL:(fr++[q]).length=m+1:=by simp[D]
 rw[aL]at ap bI;have ci:m<=ai:=by omega
 have aM:z.cell? ⟨p,22,none⟩=some (.slice (some ⟨aj,ak,none⟩) (m+1) ai):=by rw[t' U.ks.blk,U.ks.af,ap]
 have bq:z.frozen? ⟨p,22,none⟩=false:=I' (i:=22) U.ks.blk;have aN:=lt_of_block U.ks.blk;have aO:as' z 3 1 (.slice (some ⟨aj,ak,none⟩) m ai) fr.length (J' fr):=by
  have h:=U.ks.fr;rw[aL,ap]at h;have h2:=h.init;rw[<-D];have:(J' (fr++[q])).take m=J' fr:=by rw[D];simp[J']
  rw[this]at h2;exact h2
 have aP:=fun br (aQ:Below z.heap.size z br)=>y' (eq' (bn.trans (C' (E:=fun _=>False) aQ) (fun _ _ h=>h.elim)) bo ad ah (jT' (free2:=fr) (x:=br) (v:= .slice (some ⟨aj,ak,none⟩) m ai) (U.below aQ) (Far.refl _ _) (by rw[D];rw[D]at aO;exact aO.far (C' (E:=fun _=>False) aQ) (fun _ _ h=>h)) (.inr (.inl (by rw[ap];rfl)))));clear U bn bo ad ah bp aO ap aL D;refine ag' (by kernel_rfl)
  [fun v _=>v= .pointer (some ⟨p,0,none⟩),fun v _=>v= .pointer (some ⟨p,0,none⟩),fun v _=>v= .pointer (some ⟨p,0,none⟩),fun v _=>v= .pointer (some ⟨p,22,none⟩),fun v _=>v= .slice (some ⟨aj,ak,none⟩) (m+1) ai,fun v _=>v= .pointer (some ⟨p,0,none⟩),fun v _=>v= .pointer (some ⟨p,0,none⟩),fun v _=>v= .pointer (some ⟨p,22,none⟩),fun v _=>v= .slice (some ⟨aj,ak,none⟩) (m+1) ai,
   fun v _=>v= .int .i64 ((m+1:Nat):Int),fun v _=>v= .int .i64 m,fun v _=>v= .slice (some ⟨aj,ak,none⟩) m ai,fun v _=>v= .pointer (some ⟨p,0,none⟩),fun v _=>v= .pointer (some ⟨p,22,none⟩),fun _ _=>True]
  [[(0,none)],[(0,none)],[(61,some 1)],[(62,some 2)],[(63,some 3)],[(0,none)],[(65,some 5)],[(66,some 6)],[(67,some 7)],[(68,some 8)],[(69,some 9)],[(64,some 4),(70,some 10)],[(60,some 0)],[(72,some 12)],[(73,some 13),(71,some 11)]] [some 60,some 61,some 62,some 63,some 64,some 65,some 66,some 67,some 68,some 69,some 70,some 71,some 72,some 73,none] [false,false,false,false,false,false,false,false,false,false,false,false,false,false,false,false,false,false,false,false,false,false,false,false,false,false,false,false,false,false,false,false,false,false,false,false,false,false,false,false,false,false,false,false,false,false,false,false,false,false,false,false,false,false,false,false,false,false,false,false,true,true,true,true,true,true,true,true,true,true,true,true,true,true,false,false,false,false,false,false,false,false,false,false,false,false]
  14 _ rfl rfl (by kernel_rfl) (by kernel_rfl) (by kernel_rfl) (by kernel_rfl) (by kernel_rfl) (by kernel_rfl) ?_ ?_ ?_
 ·repeat' (first|exact O' _|exact X'|exact trivial|apply And.intro)
 ·refine⟨?_,?_,?_,?_,?_,?_,?_,?_,?_,?_,?_,?_,?_,?_,trivial⟩;all_goals
   intro a' y V aq;have bt:=(V.cell (p:=⟨p,22,none⟩) aN).trans aM;clear V aP;simp only[M',List.getD_cons_zero,List.getD_cons_succ,Array.getD_eq_getD_getElem?]at aq;try simp at aq
   go_simp;try exact⟨_,rfl,Below.refl _ _,rfl⟩
   try exact Below.refl _ _
   try exact⟨Below.refl _ _,by simp⟩
 ·intro f y X F;simp only[af',List.take]at F;have bJ:=F.2.2.2.2.2.2.2.2.2.2.2.1;have bK:=F.2.2.2.2.2.2.2.2.2.2.2.2.2.1;clear F;have bu:=y' (i' (aP y X));have bt:=(X.cell (p:=⟨p,22,none⟩) aN).trans aM;have bL:y.frozen? ⟨p,22,none⟩=false:=(X.frozen (p:=⟨p,22,none⟩) aN).trans bq;clear X aP aM bq;simp only[Y',bJ,bK];generalize f 60=cj;generalize f 61=ck;generalize f 62=cl;generalize f 63=cm;generalize f 64=cn;generalize f 65=co;generalize f 66=cp;generalize f 67=cq;generalize f 68=cr;generalize f 69=cs;generalize f 70=cu;generalize f 72=cv;go_simp;go_upto_region 14 with fail;refine H' (fun z=>aA' w z p g a.ticks a.welcome a.fenced fr sh st2 c) (i' bu) ?_;clear bu bt bL;rintro z3 ⟨c3,au,az,aA,ad,ah⟩;have bM:=(i' av).small hi;have bw:(sh (i * 3)).length < 1000:=by rw[(i' av).kp i hi,dF' _ _ _ ((i' av).pn i hi)];omega
  have aR:=fun y (ab:Below z3.heap.size z3 y)=>ps' ((au.below ab).shAt (i:=i * 3) (by omega)) bw G s q;simp only[ce',show 4+i * 3 * 2=4+i * 6 by omega]at aR;have aS:=fun y ab=>y' (aR y ab);have bN:=y' (And.intro au (And.intro az (And.intro aA (And.intro ad ah))));clear au az aA ad ah aR bM bw;refine ag' (by kernel_rfl)
   [fun v _=>v= .pointer (some ⟨p,0,none⟩),fun v _=>v= .int .i64 i,fun v _=>v= .pointer (some ⟨p,0,none⟩),fun v _=>v= .pointer (some ⟨p,4,none⟩),fun v _=>v= .pointer (some ⟨p,4+i * 6,none⟩),fun v _=>v= .pointer (some ⟨p,4+i * 6,none⟩),fun v _=>v= .int .i64 G,fun v _=>v= .string s,fun v _=>v= .string s,fun v _=>v= .int .i64 q,fun v _=>v= .agg #[.string s, .int .i64 q],fun _ _=>True]
   [[(0,none)],[(1,none)],[(74,some 0)],[(76,some 2)],[(77,some 3),(75,some 1)],[(78,some 4)],[(7,none)],[(2,none)],[(81,some 7)],[(8,none)],[(82,some 8),(83,some 9)],[(79,some 5),(80,some 6),(84,some 10)]] [some 74,some 75,some 76,some 77,some 78,some 79,some 80,some 81,some 82,some 83,some 84,some 85] [false,false,false,false,false,false,false,false,false,false,false,false,false,false,false,false,false,false,false,false,false,false,false,false,false,false,false,false,false,false,false,false,false,false,false,false,false,false,false,false,false,false,false,false,false,false,false,false,false,false,false,false,false,false,false,false,false,false,false,false,false,false,false,false,false,false,false,false,false,false,false,false,false,false,true,true,true,true,true,true,true,true,true,true,true,true]
   11 _ rfl rfl (by kernel_rfl) (by kernel_rfl) (by kernel_rfl) (by kernel_rfl) (by kernel_rfl) (by kernel_rfl) ?_ ?_ ?_
  ·repeat' (first|exact O' _|exact X'|exact trivial|apply And.intro)
  ·refine⟨?_,?_,?_,?_,?_,?_,?_,?_,?_,?_,?_,trivial⟩;all_goals
    intro a' y V aq;clear V aS;simp only[M',List.getD_cons_zero,List.getD_cons_succ,Array.getD_eq_getD_getElem?]at aq;try simp at aq
    go_simp;try exact⟨_,rfl,Below.refl _ _,rfl⟩
    try exact Below.refl _ _
    try exact⟨Below.refl _ _,by simp⟩
   all_goals first
    |(refine(i' (bj _)).mono ?_;rintro Z z ⟨rfl,V⟩;exact⟨rfl,V⟩)
    |(refine(i' (bj _)).mono ?_;rintro Z z ⟨rfl,V⟩;exact⟨_,rfl,V,rfl⟩)
    |skip
  ·intro Y y X F;simp only[af',List.take]at F;have bO:=F.2.2.2.2.2.1;have bP:=F.2.2.2.2.2.2.1;have bQ:=F.2.2.2.2.2.2.2.2.2.2.1;clear F;have bR:=y' (i' (aS y X));have bz:=y' X;clear X aS;simp only[Y',bO,bP,bQ];generalize Y 74=cw;generalize Y 75=cx;generalize Y 76=cy;generalize Y 77=cz;generalize Y 78=cA;generalize Y 81=cB;generalize Y 82=cC;generalize Y 83=cD;go_simp;refine(i' bR).mono ?_;rintro Z u ⟨rfl,aa⟩;have ay:=y' aa;clear aa;go_wp2;go_ret;refine⟨rfl,?_⟩;obtain⟨O,Q,ac,D,J,M,I⟩:=i' aJ;obtain⟨au,az,aA,ad,ah⟩:=i' bN;have aa:=i' ay;have bS:cd' y u p (4+i * 3 * 2) 116 c3.arr (c3.nv (i * 3)) (c3.mv (i * 3)) (bb' (sh (i * 3)) G (ce' s q)):=by rw[show 4+i * 3 * 2=4+i * 6 by omega];exact aa
   have h1:=eq' az aA ad ah ((cJ' (au.below (i' bz)) (by omega) bS).behind (i' bz));have bA:=pL' (i' av) hi s;rw[<-J,<-M,<-ac]at bA;exact⟨g,fr,_,_,st2,h1,O,bA⟩
theorem oz' (r:aC' w p g a.ticks a.welcome a.fenced free sh st c) (hs:fi' op ct 1 st a free pl) (D:aQ' a st.opening g free sh pl) {i:Nat} (hi:i < 3) (s:ByteArray) (ai:s.size<=20) (aG:a.room < 24) (aj:(a.fl i).base+(a.fl i).kept.length < 2147483647):
  Calls Tryz.prog 50 #[A' p, .int .i64 i, .string s] w fun J aH=>J= .returned (.int .i64 4)/\fp' op w aH p a c:=by
 have ak:free≠ []:=fun h=>by have:=D.sum;rw[h]at this;simp at this;omega
 obtain⟨fr,q,rfl⟩:∃fr q,free=fr++[q]:=by
  rcases List.eq_nil_or_concat free with h|⟨l,x,h⟩
  ·exact absurd h ak
  ·exact⟨l,x,by rw[h,List.concat_eq_append]⟩
 have aQ:q < 24:=D.lt q (by simp);have aI:=fun z=>vp' hs D.places q i z s.data.toList;have ao:=hs.dead;clear hs;have c0:w.cell? ⟨p,0,none⟩=some (A' c.s):=by rw[t' r.ks.blk,r.ks.a0]
 have X:=ai' r.stt;rw[ao]at X;have ap:=y' X;have aq:Wire.isStr (i:Int)=true:=by simp[Wire.isStr];omega
 have Y:=bj' (i:Int) w;rw[aq]at Y;have au:=y' Y;obtain⟨aR,cap,F,_,_,Z⟩:=r.ks.fr.shape;have av:(fr++[q]).length=fr.length+1:=by simp
 rw[av]at F Z;obtain⟨ax,ay,rfl,az⟩:=Z (by omega);have aA:w.cell? ⟨p,22,none⟩=some (.slice (some ⟨ax,ay,none⟩) (fr.length+1) cap):=by rw[t' r.ks.blk,r.ks.af,F]
 have aB:w.cell? ⟨ax,ay+fr.length,none⟩=some (.int .i64 q):=by rw[az fr.length (by omega)];simp[J']
 have aJ:fr.length+1<=24:=by have:=D.sum;simp at this;omega
 obtain⟨m,M⟩:∃m,m=fr.length:=⟨_,rfl⟩;rw[<-M]at aA aB aJ F;have aS:IntKind.i64.wrap (((m+1:Nat):Int) - 1)=(m:Int):=by rw[IntKind.wrap_i64];omega
 have aT:IntKind.i64.wrap ((m:Int)+1 - 1)=(m:Int):=by rw[IntKind.wrap_i64];omega
 have aU:IntKind.i64.wrap (m:Int)=(m:Int):=by rw[IntKind.wrap_i64];omega
 have aV:(0:Int)<=(m:Int):=by omega
 have aW:(m:Int) < ((m+1:Nat):Int):=by omega
 have aX:(m:Int) < (m:Int)+1:=by omega
 have aY:(((m+1:Nat):Int) ==0)=false:=by simp;omega
 have aZ:((m:Int)+1==0)=false:=by simp;omega
 obtain⟨H,O⟩:∃H,H=(a.fl i).base+(a.fl i).kept.length:=⟨_,rfl⟩;have aa:=fun n=>cZ' (r.below (below_drewN (Below.refl _ _) n)) D hi (D.bs i hi);rw[<-O]at aa aj;have aC:=fun n=>y' (aa n);have aD:IntKind.i64.wrap ((H:Int)+1)=((H+1:Nat):Int):=by rw[IntKind.wrap_i64];omega
 obtain⟨z,Q⟩:∃z,z=H+1:=⟨_,rfl⟩;rw[<-Q]at aD;obtain⟨h0,I⟩:=aI z;have aK:s.data.toList.length=s.size:=by simp
 have G:=gF' (st:=st) q i z s.data.toList (by omega) (by rw[r.len];omega);rw[r.len]at G;have ab:=fun y (ac:Below w.heap.size w y)=>ds' y c.s c.dp st c.dlv c.duv (r.below ac).stt q i z s (by rw[r.len];omega) (by omega) (by omega) ai;have U:(st.putRecord q i z s.data.toList).2.opening=st.opening:=rfl;obtain⟨st2,ad⟩:∃st2,st2=(st.putRecord q i z s.data.toList).2:=⟨_,rfl⟩;rw[<-ad]at I G U;rw[h0,<-ad]at ab;have aE:=fun y ac=>y' (ab y ac);have ba:¬ (20:Int) < (s.size:Int):=by omega
 have bb:(0:Int)<=(i:Int):=by omega
 have bc:(i:Int) < 3:=by omega
 have aL:=y' (And.intro I (And.intro G (And.intro U (And.intro M (And.intro O (And.intro Q F))))));have be:=y' D;have aM:=y' r;have aN:=lt_of_block r.ks.blk;clear r D X Y aq ab I G U M O Q F aa h0 ad Z az aK av ak aG aj ai ao;unfold A' at *;go_enter Tryz.func50,Tryz.ntmps50;go_upto_region 9 with (first|(go_at_call 66;refine(i' ap).mono ?_;rintro J y ⟨rfl,ah⟩;obtain rfl:w=y:=ah.symm)|(go_at_call 71;refine(i' au).mono ?_;rintro J y ⟨rfl,ah⟩;obtain rfl:w=y:=ah.symm));go_quiet (first|(go_at_call 79;exact Calls.quiet_of (i' (aC _))));go_upto_region 10 with fail;refine H' (fun x=>Below w.heap.size w x) (below_drewN (Below.refl _ _) _) ?_;clear aB ap au aC aD;intro x V;have bf:=(V.cell (p:=⟨p,0,none⟩) aN).trans c0;have aF:=y' V;have aO:=y' (i' (aE x V));clear V c0 aA aE;go_wp2_with (go_at_call 80;refine(i' aO).mono ?_;rintro J y ⟨rfl,bg,k1,k2,k3⟩;replace k1:=y' k1;replace k2:=y' k2;replace k3:=y' k3);obtain⟨I,G,U,M,O,Q,F⟩:=i' aL;have aP:=dG' ((i' aM).below (i' aF)) (i' k1) (i' k2) (i' k3) G;go_ret;exact⟨rfl,_,_,_,st2,aP.behind (i' aF),I⟩
end
def plD (r:Nat->List Nat) (n:Nat->Nat) (j:Nat):Nat->List Nat:=fun t=>if t < j then(r t).drop (n t)else r t
def frD (free:List Nat) (r:Nat->List Nat) (n:Nat->Nat):Nat->List Nat
 |0=>free
 |j+1=>frD free r n j++(r j).take (n j)
theorem vr' (r:Nat->List Nat) (n:Nat->Nat):plD r n 0=r:=by funext t;unfold plD;rw[if_neg (by omega)]
theorem qk' (r:Nat->List Nat) (n:Nat->Nat) (j:Nat):plD r n j j=r j:=by unfold plD;rw[if_neg (by omega)]
theorem vs' (free:List Nat) (r:Nat->List Nat) (n:Nat->Nat) (j:Nat):frD free r n (j+1)=frD free r n j++(plD r n j j).take (n j):=by rw[qk'];rfl
theorem vt' (r:Nat->List Nat) (n:Nat->Nat) (j:Nat):plD r n (j+1)=fun t=>if t=j then(plD r n j j).drop (n j)else plD r n j t:=by
 funext t;rw[qk'];unfold plD;by_cases h:t=j
 ·subst h;rw[if_pos (by omega),if_pos rfl]
 ·rw[if_neg h];by_cases h2:t < j
  ·rw[if_pos (by omega),if_pos h2]
  ·rw[if_neg (by omega),if_neg h2]
theorem tc' {free:List Nat} {r:Nat->List Nat} {n:Nat->Nat} {x:Nat}:∀j,x∈frD free r n j->x∈free\/∃i,i < j/\x∈ (r i).take (n i)
 |0,h=> .inl h
 |j+1,h=>by
  unfold frD at h;rw[List.mem_append]at h;rcases h with h|h
  ·exact(tc' j h).imp id (fun⟨i,hi,z⟩=>⟨i,by omega,z⟩)
  ·exact .inr ⟨j,by omega,h⟩
theorem fi'.same {op ct n:Nat} {st:Mod.Stv} {a a':Mod.Ag} {free:List Nat} {r:Nat->List Nat} (h:fi' op ct n st a free r) (z:∀i,i < 3->(a'.fl i).base=(a.fl i).base/\(a'.fl i).kept.map (·.1)=(a.fl i).kept.map (·.1)):fi' op ct n st a' free r:=⟨h.dead,h.arm,h.op,h.ct,h.dk.same z⟩
def fY' (a:Mod.Ag):Nat:=((a.fl 0).base+(a.fl 0).base+(a.fl 0).kept.length)+((a.fl 1).base+(a.fl 1).base+(a.fl 1).kept.length)+((a.fl 2).base+(a.fl 2).base+(a.fl 2).kept.length)
theorem ud' {a a':Mod.Ag} (r:∀i,i < 3->(a'.fl i).base=(a.fl i).base/\(a'.fl i).kept.map (·.1)=(a.fl i).kept.map (·.1)):fY' a'=fY' a:=by
 have hl:∀i,i < 3->(a'.fl i).kept.length=(a.fl i).kept.length:=fun i hi=>by have:=congrArg List.length (r i hi).2;simpa using this
 unfold fY';rw[(r 0 (by omega)).1,(r 1 (by omega)).1,(r 2 (by omega)).1,hl 0 (by omega),hl 1 (by omega),hl 2 (by omega)]
theorem td' {a:Mod.Ag} (r:∀i,i < 3->(a.fl i).base+(a.fl i).kept.length<=2147483647):fY' a<=12884901882:=by
 have h0:=r 0 (by omega);have h1:=r 1 (by omega);have h2:=r 2 (by omega);unfold fY';omega
theorem lw' {a:Mod.Ag} {op:Nat} {g:Nat->Nat} {free:List Nat} {sh:Nat->List (Nat×Value)} {F:Nat->List Nat} (z:aQ' a op g free sh F) {n r:Nat->Nat} (D:∀i,i < 3->r i=(a.fl i).base+n i) (G:¬ (r 0=g 0/\r 1=g 1/\r 2=g 2)):0 < n 0+n 1+n 2:=by
 have H:=z.bs 0 (by omega);have I:=z.bs 1 (by omega);have J:=z.bs 2 (by omega);have M:=D 0 (by omega);have O:=D 1 (by omega);have Q:=D 2 (by omega);omega
section
variable {w x:World} {p:Nat} {g:Nat->Nat} {tk:Nat} {wel fen:Bool} {free:List Nat} {sh:Nat->List (Nat×Value)} {st:Mod.Stv} {c:Av} {a:Mod.Ag} {pl:Nat->List Nat} {op:Nat}
end
end Go.Proofs.YtamafdcnbcoegabGreat
