/-
  Part 10 of a proof: E1, E2, E4, E5, E6, L31, L34.
-/
import Derived.Test.YtamafdcnbcoegaaGreatSf9
set_option maxRecDepth 100000
set_option maxHeartbeats 40000000
namespace Go.Proofs.YtamafdcnbcoegaaGreat
namespace Mod
def sec (L:List UInt8) (k:Nat):List UInt8:=(L.drop (k * 64)).take 64
theorem length_sec {L:List UInt8} {k:Nat} (h:k * 64+64<=L.length):(sec L k).length=64:=by
 simp[sec];omega
theorem sec_set {L s:List UInt8} {k:Nat} (hs:s.length=64) (f:64 * k+64<=L.length):sec (setSec L k s) k=s:=by
 unfold sec setSec;have h1:(L.take (64 * k)).length=k * 64:=by simp;omega
 rw[List.append_assoc,List.drop_append_of_le_length (by omega),List.drop_of_length_le (by omega),List.nil_append,List.take_append_of_le_length (by omega),List.take_of_length_le (by omega)]
theorem sec_other {L s:List UInt8} {k j:Nat} (hs:s.length=64) (f:64 * k+64<=L.length) (h:j≠k):sec (setSec L k s) j=sec L j:=by
 unfold sec;apply List.ext_getElem?;intro i;rw[List.getElem?_take,List.getElem?_take];split
 ·rename_i hi;rw[List.getElem?_drop,List.getElem?_drop];unfold setSec;rw[List.append_assoc];by_cases r:j < k
  ·rw[List.getElem?_append_left (by simp;omega),List.getElem?_take,if_pos (by omega)]
  ·have hl:(L.take (64 * k)).length=64 * k:=by simp;omega
   rw[List.getElem?_append_right (by omega),hl,List.getElem?_append_right (by omega),hs,List.getElem?_drop];congr 1;omega
 ·rfl
def nought:List UInt8:=List.replicate 64 0
def opOf (S:List UInt8):Nat:=(Wire.numAt S 0).toNat
def ctOf (S:List UInt8):Nat:=(Wire.numAt S 4).toNat+(Wire.numAt S 8).toNat * 4294967296
theorem opOf_lt (S:List UInt8):opOf S < 4294967296:=by have:=Wire.numAt_range S 0;unfold opOf;omega
theorem ctOf_lt (S:List UInt8):ctOf S < 18446744073709551616:=by have:=Wire.numAt_range S 4;have:=Wire.numAt_range S 8;unfold ctOf;omega
structure Hd where
 o:Nat
 c:Nat
 a:Nat
 b:Nat
 d:Nat
def hd0:Hd:=⟨0,0,0,0,0⟩
def hdOf (S:List UInt8):Hd:=⟨opOf S,ctOf S,(Wire.numAt S 12).toNat,(Wire.numAt S 16).toNat,(Wire.numAt S 20).toNat⟩
def sealH (h:Hd):List UInt8:=sealB h.o h.c (headIn h.a h.b h.d)
def Hd.small (h:Hd):Bool:=decide (h.a<=2147483647) && (decide (h.b<=2147483647) &&decide (h.d<=2147483647))
def isStamp (o:Nat):Bool:=decide (1<=o) &&decide (o<=1073741824)
def headOk (S:List UInt8):Bool:=decide (S=nought) || ((hdOf S).small&& (isStamp (opOf S) &&decide (sealH (hdOf S)=S)))
def headIs (S:List UInt8):Hd:=if S=nought then hd0 else hdOf S
theorem numAt_le4 {n:Nat} (h:n < 4294967296) (p q:List UInt8):Wire.numAt (p++(Wire.le4 (n:Int)++q)) p.length=n:=by
 unfold Wire.numAt Wire.le4;have e:=Wire.num4_le4 (n:=(n:Int)) (by omega) (by omega);conv=>rhs;rw[<-e]
 congr 1 <;> simp[List.getD_eq_getElem?_getD]
theorem stamp_split (o c:Nat) (f:List UInt8):stampB o c++f=Wire.le4 (o:Int)++(Wire.le4 ((c % 4294967296:Nat):Int)++(Wire.le4 ((c / 4294967296:Nat):Int)++f)):=by
 unfold stampB;simp
theorem opOf_seal {o c:Nat} {ins:List UInt8} (f:o < 4294967296):opOf (sealB o c ins)=o:=by
 unfold opOf sealB;rw[List.append_assoc,stamp_split];have:=numAt_le4 f [] (Wire.le4 ((c % 4294967296:Nat):Int)++(Wire.le4 ((c / 4294967296:Nat):Int)++((ins++List.replicate (40 - ins.length) 0)++stampB o c)));simp only[List.nil_append,List.length_nil]at this;rw[this];omega
theorem ctOf_seal {o c:Nat} {ins:List UInt8} (f:c < 18446744073709551616):ctOf (sealB o c ins)=c:=by
 unfold ctOf sealB;rw[List.append_assoc,stamp_split];have h1:=numAt_le4 (n:=c % 4294967296) (by omega) (Wire.le4 (o:Int)) (Wire.le4 ((c / 4294967296:Nat):Int)++((ins++List.replicate (40 - ins.length) 0)++stampB o c));have h2:=numAt_le4 (n:=c / 4294967296) (by omega) (Wire.le4 (o:Int)++Wire.le4 ((c % 4294967296:Nat):Int)) ((ins++List.replicate (40 - ins.length) 0)++stampB o c);rw[Wire.length_le4]at h1;rw[List.length_append,Wire.length_le4,Wire.length_le4,List.append_assoc]at h2;rw[h1,h2];omega
theorem inside_at {o c n:Nat} {p q:List UInt8} (f:n < 4294967296):Wire.numAt (sealB o c (p++(Wire.le4 (n:Int)++q))) (12+p.length)=n:=by
 unfold sealB;have h:=numAt_le4 f (stampB o c++p) (q++(List.replicate (40 - (p++(Wire.le4 (n:Int)++q)).length) 0++stampB o c));have e:(stampB o c++p).length=12+p.length:=by rw[List.length_append,length_stampB]
 rw[e]at h;conv=>rhs;rw[<-h]
 congr 1
 simp
theorem hdOf_seal {h:Hd} (z:h.o < 4294967296) (D:h.c < 18446744073709551616) (F:h.a < 4294967296) (G:h.b < 4294967296) (hd:h.d < 4294967296):hdOf (sealH h)=h:=by
 unfold hdOf sealH;have H:headIn h.a h.b h.d=[]++(Wire.le4 (h.a:Int)++(Wire.le4 (h.b:Int)++Wire.le4 (h.d:Int))):=by unfold headIn;simp
 have I:headIn h.a h.b h.d=Wire.le4 (h.a:Int)++(Wire.le4 (h.b:Int)++Wire.le4 (h.d:Int)):=by unfold headIn;simp
 have J:headIn h.a h.b h.d=(Wire.le4 (h.a:Int)++Wire.le4 (h.b:Int))++(Wire.le4 (h.d:Int)++[]):=by unfold headIn;simp
 have f:=inside_at (o:=h.o) (c:=h.c) (p:=[]) (q:=Wire.le4 (h.b:Int)++Wire.le4 (h.d:Int)) F;have r:=inside_at (o:=h.o) (c:=h.c) (p:=Wire.le4 (h.a:Int)) (q:=Wire.le4 (h.d:Int)) G;have u:=inside_at (o:=h.o) (c:=h.c) (p:=Wire.le4 (h.a:Int)++Wire.le4 (h.b:Int)) (q:=[]) hd;rw[<-H]at f;rw[<-I,Wire.length_le4]at r;rw[<-J,List.length_append,Wire.length_le4,Wire.length_le4]at u;simp only[List.length_nil]at f;rw[opOf_seal z,ctOf_seal D,f,r,u];simp
theorem length_sealH (h:Hd):(sealH h).length=64:=length_sealB _ _ (by rw[length_headIn];omega)
theorem opOf_nought:opOf nought=0:=by decide
theorem sealH_ne {h:Hd} (r:1<=h.o) (f:h.o < 4294967296):sealH h≠nought:=by
 intro e;have:=opOf_seal (c:=h.c) (ins:=headIn h.a h.b h.d) f;unfold sealH at e;rw[e,opOf_nought]at this;omega
theorem headOk_seal {h:Hd} (hs:isStamp h.o=true) (r:h.c < 18446744073709551616) (f:h.small=true):headOk (sealH h)=true/\headIs (sealH h)=h:=by
 have u:1<=h.o/\h.o<=1073741824:=by simpa[isStamp]using hs
 have D:h.a<=2147483647/\h.b<=2147483647/\h.d<=2147483647:=by simpa[Hd.small]using f
 have e:=hdOf_seal (h:=h) (by omega) r (by omega) (by omega) (by omega);have z:=opOf_seal (c:=h.c) (ins:=headIn h.a h.b h.d) (o:=h.o) (by omega);refine⟨?_,?_⟩
 ·unfold headOk;rw[e,f];rw[show opOf (sealH h)=h.o from z,hs];simp
 ·unfold headIs;rw[if_neg (sealH_ne u.1 (by omega)),e]
theorem headOk_nought:headOk nought=true/\headIs nought=hd0:=by simp[headOk,headIs]
theorem headOk_some {S:List UInt8} (h:headOk S=true):(S=nought/\headIs S=hd0)\/(isStamp (headIs S).o=true/\(headIs S).c < 18446744073709551616/\(headIs S).small=true/\S=sealH (headIs S)):=by
 unfold headOk at h;by_cases e:S=nought
 ·exact .inl ⟨e,by unfold headIs;rw[if_pos e]⟩
 ·right;have f:(hdOf S).small=true/\isStamp (opOf S)=true/\sealH (hdOf S)=S:=by simpa[e]using h
  unfold headIs;rw[if_neg e];exact⟨f.2.1,ctOf_lt S,f.1,f.2.2.symm⟩
def newer2 (h g:Hd):Bool:=if h.o≠g.o then decide (g.o < h.o)else decide (g.c < h.c)
def newest (L:List UInt8):Option (Hd×Nat):=
 if headOk (sec L 0)=true/\headOk (sec L 1)=true then
  if newer2 (headIs (sec L 1)) (headIs (sec L 0))=true then some (headIs (sec L 1),1)
  else if newer2 (headIs (sec L 0)) (headIs (sec L 1))=true then some (headIs (sec L 0),0)
  else if(headIs (sec L 0)).o=0/\(headIs (sec L 1)).o=0 then some (hd0,0)else none
 else none
structure Rc where
 s:Nat
 q:Nat
 b:ByteArray
def rc0:Rc:=⟨0,0,⟨#[]⟩⟩
def lenOf (S:List UInt8):Nat:=(S.getD 13 0).toNat
def rcOf (S:List UInt8):Rc:=⟨(S.getD 12 0).toNat,(Wire.numAt S 14).toNat,⟨((S.drop 18).take (lenOf S)).toArray⟩⟩
def sealR (o c:Nat) (f:Rc):List UInt8:=sealB o c (recIn f.s f.q f.b.data.toList)
def recOk (S:List UInt8) (last:Nat):Bool:=
 decide (S=nought) || ((decide (lenOf S<=20) && (decide ((rcOf S).s < 3) && (decide (1<=(rcOf S).q) &&decide ((rcOf S).q<=2147483647)))) && (isStamp (opOf S) && (decide (opOf S<=last) &&decide (sealR (opOf S) (ctOf S) (rcOf S)=S))))
def recIs (S:List UInt8):Rc:=if S=nought then rc0 else rcOf S
def Rc.fits (f:Rc):Prop:=f.s < 3/\1<=f.q/\f.q<=2147483647/\f.b.size<=20
theorem len_b (b:ByteArray):b.data.toList.length=b.size:=Array.length_toList
theorem rcOf_seal {o c:Nat} {f:Rc} (u:f.fits):rcOf (sealR o c f)=f/\lenOf (sealR o c f)=f.b.size:=by
 obtain⟨h1,h2,h3,h4⟩:=u;have hl:=len_b f.b;have r:lenOf (sealR o c f)=f.b.size:=by unfold lenOf sealR sealB recIn;rw[List.append_assoc,List.getD_eq_getElem?_getD,List.getElem?_append_right (by rw[length_stampB];omega),length_stampB];simp;omega
 refine⟨?_,r⟩;have z:((sealR o c f).getD 12 0).toNat=f.s:=by unfold sealR sealB recIn;rw[List.append_assoc,List.getD_eq_getElem?_getD,List.getElem?_append_right (by rw[length_stampB];omega),length_stampB];simp;omega
 have D:(Wire.numAt (sealR o c f) 14).toNat=f.q:=by have:=inside_at (o:=o) (c:=c) (p:=[UInt8.ofNat (f.s % 256),UInt8.ofNat (f.b.data.toList.length % 256)]) (q:=f.b.data.toList) (n:=f.q) (by omega);rw[<-List.append_assoc]at this;unfold sealR recIn;rw[show(14:Nat)=12+ [UInt8.ofNat (f.s % 256),UInt8.ofNat (f.b.data.toList.length % 256)].length from rfl,this];rfl
 have F:((sealR o c f).drop 18).take f.b.size=f.b.data.toList:=by
  have hd:(sealR o c f).drop 18=f.b.data.toList++(List.replicate (40 - (recIn f.s f.q f.b.data.toList).length) 0++stampB o c):=by
   unfold sealR sealB;have:stampB o c++(recIn f.s f.q f.b.data.toList++List.replicate (40 - (recIn f.s f.q f.b.data.toList).length) 0)++stampB o c
     =(stampB o c++([UInt8.ofNat (f.s % 256),UInt8.ofNat (f.b.data.toList.length % 256)]++Wire.le4 (f.q:Int)))++(f.b.data.toList++(List.replicate (40 - (recIn f.s f.q f.b.data.toList).length) 0++stampB o c)):=by
    conv=>lhs;arg 1;arg 2;arg 1;unfold recIn
    simp
   rw[this];exact List.drop_left' (by simp[length_stampB,Wire.length_le4])
  rw[hd,List.take_append_of_le_length (by omega),List.take_of_length_le (by omega)]
 unfold rcOf;rw[z,r,D,F]
theorem length_sealR {o c:Nat} {f:Rc} (r:f.b.size<=20):(sealR o c f).length=64:=
 length_sealB _ _ (by rw[length_recIn,len_b];omega)
theorem sealR_ne {o c:Nat} {f:Rc} (u:1<=o) (r:o < 4294967296):sealR o c f≠nought:=by
 intro e;have:=opOf_seal (c:=c) (ins:=recIn f.s f.q f.b.data.toList) r;unfold sealR at e;rw[e,opOf_nought]at this;omega
def RecAt (S:List UInt8) (last:Nat) (f:Rc):Prop:=(S=nought/\f=rc0)\/∃o c,1<=o/\o<=last/\o < 4294967296/\c < 18446744073709551616/\f.fits/\S=sealR o c f
theorem RecAt.up {S:List UInt8} {n m:Nat} {f:Rc} (h:RecAt S n f) (r:n<=m):RecAt S m f:=by
 rcases h with h|⟨o,c,h1,h2,h3⟩
 ·exact .inl h
 ·exact .inr ⟨o,c,h1,by omega,h3⟩
theorem recOk_at {S:List UInt8} {last:Nat} {f:Rc} (h:RecAt S last f) (hl:last<=1073741824):recOk S last=true/\recIs S=f:=by
 rcases h with ⟨rfl,rfl⟩|⟨o,c,h1,h2,h3,h4,r,rfl⟩
 ·simp[recOk,recIs]
 ·obtain⟨u,z⟩:=rcOf_seal (o:=o) (c:=c) r;have D:opOf (sealR o c f)=o:=opOf_seal h3;have F:ctOf (sealR o c f)=c:=ctOf_seal h4;obtain⟨g1,g2,G,H⟩:=r;refine⟨?_,?_⟩
  ·unfold recOk;rw[u,z,D,F];simp[isStamp];right;omega
  ·unfold recIs;rw[if_neg (sealR_ne h1 h3),u]
theorem recAt_ok {S:List UInt8} {last:Nat} (h:recOk S last=true):RecAt S last (recIs S):=by
 unfold recOk at h;by_cases e:S=nought
 ·exact .inl ⟨e,by unfold recIs;rw[if_pos e]⟩
 ·right;have f:(lenOf S<=20/\(rcOf S).s < 3/\1<=(rcOf S).q/\(rcOf S).q<=2147483647)/\isStamp (opOf S)=true/\opOf S<=last/\sealR (opOf S) (ctOf S) (rcOf S)=S:=by have:=h;simp[e]at this;omega
  obtain⟨⟨g1,g2,r,u⟩,z,D,F⟩:=f;have G:1<=opOf S/\opOf S<=1073741824:=by simpa[isStamp]using z
  unfold recIs;rw[if_neg e];refine⟨opOf S,ctOf S,G.1,D,by omega,ctOf_lt S,⟨g2,r,u,?_⟩,F.symm⟩;show(rcOf S).b.size<=20;simp[rcOf,ByteArray.size];omega
theorem recOk_small {S:List UInt8} {last:Nat} (h:recOk S last=true):(recIs S).s < 3/\(recIs S).q<=2147483647/\(recIs S).b.size<=20:=by
 rcases recAt_ok h with ⟨_,e⟩|⟨o,c,_,_,_,_,⟨h1,h2,h3,h4⟩,_⟩
 ·rw[e];simp[rc0,ByteArray.size]
 ·exact⟨h1,h3,h4⟩
def recsFrom (L:List UInt8) (last:Nat):Nat->Nat->Option (List Rc)
 | _,0=>some []
 |x,n+1=>if recOk (sec L (2+x)) last=true then(recsFrom L last (x+1) n).map (recIs (sec L (2+x)):: ·)else none
end Mod
namespace Mod
def Older (S:List UInt8) (op c:Nat):Prop:=S=nought\/∃h:Hd,1<=h.o/\h.o<=op/\h.c < 18446744073709551616/\h.small=true/\(h.o < op\/h.c < c)/\S=sealH h
structure DiskOk (L:List UInt8) (op ct hd:Nat) (g:Nat->Nat) (m:Nat):Prop where
 len:L.length=m * 64
 two:2<=m
 hd1:hd<=1
 op1:1<=op
 opm:op < 4294967296
 ctm:ct < 18446744073709551616
 sm:∀i,i < 3->g i<=2147483647
 hs:∃c,c<=ct/\sec L hd=sealH ⟨op,c,g 0,g 1,g 2⟩/\Older (sec L (1 - hd)) op c
theorem newer2_of {h g:Hd} (f:g.o < h.o\/g.o=h.o/\g.c < h.c):newer2 h g=true/\newer2 g h=false:=by
 unfold newer2;rcases f with f|⟨f,r⟩
 ·rw[if_pos (by omega),if_pos (by omega)];simp;omega
 ·rw[if_neg (by omega),if_neg (by omega)];simp;omega
theorem Older.head {S:List UInt8} {op c:Nat} (h:Older S op c) (r:op<=1073741824) (f:1<=op):headOk S=true/\((headIs S).o < op\/(headIs S).o=op/\(headIs S).c < c):=by
 rcases h with rfl|⟨h,h1,h2,h3,h4,h5,rfl⟩
 ·exact⟨headOk_nought.1, .inl (by rw[headOk_nought.2];exact f)⟩
 ·have:=headOk_seal (h:=h) (by simp[isStamp];omega) h3 h4;refine⟨this.1,?_⟩;rw[this.2];omega
theorem small_of {a b d:Nat} {o c:Nat} (f:a<=2147483647) (r:b<=2147483647) (hd:d<=2147483647):Hd.small ⟨o,c,a,b,d⟩=true:=by simp[Hd.small];omega
theorem DiskOk.newest {L:List UInt8} {op ct hd:Nat} {g:Nat->Nat} {m:Nat} (h:DiskOk L op ct hd g m) (z:op<=1073741824):∃c,newest L=some (⟨op,c,g 0,g 1,g 2⟩,hd):=by
 obtain⟨c,h1,h2,h3⟩:=h.hs;have s:=headOk_seal (h:=⟨op,c,g 0,g 1,g 2⟩) (by have:=h.op1;simp[isStamp];omega) (by have:=h.ctm;show c < _;omega) (small_of (h.sm 0 (by omega)) (h.sm 1 (by omega)) (h.sm 2 (by omega)));obtain⟨r,u⟩:=h3.head z h.op1;refine⟨c,?_⟩;have D:=h.hd1;obtain rfl|rfl:hd=0\/hd=1:=by omega
 ·have f:=newer2_of (h:=⟨op,c,g 0,g 1,g 2⟩) (g:=headIs (sec L 1)) u;unfold Mod.newest;rw[h2,s.1,s.2,show sec L 1=sec L (1 - 0) from rfl,r];rw[if_pos ⟨rfl,rfl⟩,show headIs (sec L (1 - 0))=headIs (sec L 1) from rfl,f.2,if_neg (by simp),f.1,if_pos rfl]
 ·have f:=newer2_of (h:=⟨op,c,g 0,g 1,g 2⟩) (g:=headIs (sec L 0)) u;unfold Mod.newest;rw[h2,s.1,s.2,show sec L 0=sec L (1 - 1) from rfl,r];rw[if_pos ⟨rfl,rfl⟩,show headIs (sec L (1 - 1))=headIs (sec L 0) from rfl,f.1,if_pos rfl]
theorem DiskOk.numbers {L:List UInt8} {op ct hd:Nat} {g g':Nat->Nat} {m:Nat} (h:DiskOk L op ct hd g m) (r:∀i,i < 3->g' i<=2147483647) (u:ct+1 < 18446744073709551616):
  DiskOk (setSec L (1 - hd) (sealH ⟨op,ct+1,g' 0,g' 1,g' 2⟩)) op (ct+1) (1 - hd) g' m:=by
 obtain⟨c,h1,h2,h3⟩:=h.hs;have hl:=h.len;have z:=h.two;have D:=h.hd1;have f:=length_sealH ⟨op,ct+1,g' 0,g' 1,g' 2⟩;refine⟨by rw[length_setSec f (by omega)];exact hl,z,by omega,h.op1,h.opm,u,r,ct+1,Nat.le_refl _,sec_set f (by omega),?_⟩;rw[sec_other f (by omega) (by omega),show 1 - (1 - hd)=hd by omega,h2];exact .inr ⟨⟨op,c,g 0,g 1,g 2⟩,h.op1,Nat.le_refl _,by have:=h.ctm;show c < _;omega,small_of (h.sm 0 (by omega)) (h.sm 1 (by omega)) (h.sm 2 (by omega)), .inr (by show c < ct+1;omega),rfl⟩
theorem DiskOk.record {L:List UInt8} {op ct hd:Nat} {g:Nat->Nat} {m:Nat} (h:DiskOk L op ct hd g m) {x:Nat} {S:List UInt8} (f:S.length=64) (z:2+x < m) (r:ct+1 < 18446744073709551616):
  DiskOk (setSec L (2+x) S) op (ct+1) hd g m:=by
 obtain⟨c,h1,h2,h3⟩:=h.hs;have hl:=h.len;have u:=h.hd1;refine⟨by rw[length_setSec f (by omega)];exact hl,h.two,u,h.op1,h.opm,r,h.sm,c,by omega,?_,?_⟩
 ·rw[sec_other f (by omega) (by omega)];exact h2
 ·rw[sec_other f (by omega) (by omega)];exact h3
theorem newest_some {L:List UInt8} {h:Hd} {at':Nat} (f:newest L=some (h,at')):at'<=1/\headOk (sec L at')=true/\h=headIs (sec L at')/\headOk (sec L (1 - at'))=true:=by
 unfold newest at f;split at f
 ·rename_i r;split at f
  ·cases f;exact⟨by omega,r.2,rfl,r.1⟩
  ·split at f
   ·cases f;exact⟨by omega,r.1,rfl,r.2⟩
   ·split at f
    ·rename_i h0;cases f;refine⟨by omega,r.1,?_,r.2⟩;rcases headOk_some r.1 with ⟨_,e⟩|⟨e,_⟩
     ·exact e.symm
     ·rw[h0.1]at e;cases e
    ·cases f
 ·cases f
theorem headIs_small {S:List UInt8} (h:headOk S=true):(headIs S).o<=1073741824/\(headIs S).c < 18446744073709551616/\(headIs S).a<=2147483647/\(headIs S).b<=2147483647/\(headIs S).d<=2147483647:=by
 rcases headOk_some h with ⟨_,e⟩|⟨f,r,u,_⟩
 ·rw[e];simp[hd0]
 ·have h1:1<=(headIs S).o/\(headIs S).o<=1073741824:=by simpa[isStamp]using f
  have h2:(headIs S).a<=2147483647/\(headIs S).b<=2147483647/\(headIs S).d<=2147483647:=by simpa[Hd.small]using u
  exact⟨h1.2,r,h2⟩
def Hd.num (h:Hd) (i:Nat):Nat:=if i=0 then h.a else if i=1 then h.b else h.d
def openL (L:List UInt8) (h:Hd) (at':Nat):List UInt8:=setSec L (1 - at') (sealH ⟨h.o+1,1,h.a,h.b,h.d⟩)
theorem opened_ok {L:List UInt8} {h:Hd} {at' m:Nat} (r:newest L=some (h,at')) (hl:L.length=m * 64) (u:2<=m):DiskOk (openL L h at') (h.o+1) 1 (1 - at') h.num m:=by
 obtain⟨h1,h2,rfl,h3⟩:=newest_some r;have hs:=headIs_small h2;have f:=length_sealH ⟨(headIs (sec L at')).o+1,1,(headIs (sec L at')).a,(headIs (sec L at')).b,(headIs (sec L at')).d⟩;refine⟨by unfold openL;rw[length_setSec f (by omega)];exact hl,u,by omega,by omega,by omega,by omega,?_,1,Nat.le_refl _,sec_set f (by omega),?_⟩
 ·intro i _;unfold Hd.num;split
  ·omega
  ·split <;> omega
 ·unfold openL;rw[sec_other f (by omega) (by omega),show 1 - (1 - at')=at' by omega];rcases headOk_some h2 with ⟨e,_⟩|⟨z,D,F,G⟩
  ·exact .inl e
  ·have h1:1<=(headIs (sec L at')).o/\(headIs (sec L at')).o<=1073741824:=by simpa[isStamp]using z
   exact .inr ⟨_,h1.1,by omega,D,F, .inl (by omega),G⟩
theorem openL_other {L:List UInt8} {h:Hd} {at' m:Nat} (hl:L.length=m * 64) (f:2<=m) {k:Nat} (r:2<=k):sec (openL L h at') k=sec L k:=by
 unfold openL;exact sec_other (length_sealH _) (by omega) (by omega)
theorem recsFrom_at {L:List UInt8} {last:Nat} (r:last<=1073741824) (f:Nat->Rc):∀ (n x:Nat),(∀y,x<=y->y < x+n->RecAt (sec L (2+y)) last (f y))->recsFrom L last x n=some ((List.range n).map fun j=>f (x+j))
 |0,_,_=>rfl
 |n+1,x,h=>by obtain⟨h1,h2⟩:=recOk_at (h x (Nat.le_refl _) (by omega)) r;have ih:=recsFrom_at r f n (x+1) (fun y u z=>h y (by omega) (by omega));rw[recsFrom,if_pos h1,h2,ih,List.range_succ_eq_map];simp;intro a _;rw[Nat.add_assoc,Nat.add_comm 1 a]
theorem recsFrom_some {L:List UInt8} {last:Nat}:∀ (n x:Nat) {rs:List Rc},recsFrom L last x n=some rs->rs.length=n/\∀y,y < n->recOk (sec L (2+(x+y))) last=true/\rs[y]? =some (recIs (sec L (2+(x+y))))
 |0,_,rs,h=>by cases h;exact⟨rfl,fun y r=>by omega⟩
 |n+1,x,rs,h=>by
  rw[recsFrom]at h;split at h
  ·rename_i u;cases f:recsFrom L last (x+1) n with
   |none=>rw[f]at h;cases h
   |some D=>
    rw[f]at h;cases h;obtain⟨z,i2⟩:=recsFrom_some n (x+1) f;refine⟨by simp[z],fun y r=>?_⟩;cases y with
    |zero=>exact⟨u,rfl⟩
    |succ y=>have:=i2 y (by omega);rw[show x+(y+1)=x+1+y by omega];exact⟨this.1,by rw[List.getElem?_cons_succ];exact this.2⟩
  ·cases h
def openSt (L:List UInt8):Option (Hd×Nat×List Rc):=
 match newest L with
 |none=>none
 |some (h,at')=>match recsFrom L h.o 0 (L.length / 64 - 2)with
  |none=>none
  |some rs=>some (h,at',rs)
theorem openSt_some {L:List UInt8} {h:Hd} {at':Nat} {rs:List Rc} (f:openSt L=some (h,at',rs)):newest L=some (h,at')/\recsFrom L h.o 0 (L.length / 64 - 2)=some rs:=by
 unfold openSt at f;cases u:newest L with
 |none=>rw[u]at f;cases f
 |some p=>
  obtain⟨z,a'⟩:=p;rw[u]at f;simp only at f;cases r:recsFrom L z.o 0 (L.length / 64 - 2)with
  |none=>rw[r]at f;cases f
  |some D=>rw[r]at f;cases f;exact⟨rfl,r⟩
theorem openSt_of {L:List UInt8} {h:Hd} {at':Nat} {rs:List Rc} (h1:newest L=some (h,at')) (h2:recsFrom L h.o 0 (L.length / 64 - 2)=some rs):openSt L=some (h,at',rs):=by
 unfold openSt;rw[h1];simp only
 rw[h2]
theorem DiskOk.opens {L:List UInt8} {op ct hd:Nat} {g:Nat->Nat} {m:Nat} (h:DiskOk L op ct hd g m) (r:op<=1073741824) (f:Nat->Rc) (u:∀x,x < m - 2->RecAt (sec L (2+x)) op (f x)):
  ∃c,openSt L=some (⟨op,c,g 0,g 1,g 2⟩,hd,(List.range (m - 2)).map f):=by
 obtain⟨c,z⟩:=h.newest r;refine⟨c,openSt_of z ?_⟩;rw[show L.length / 64=m by have:=h.len;omega];have:=recsFrom_at (L:=L) r f (m - 2) 0 (fun y _ D=>u y (by omega));simpa using this
theorem nought_sec (n k:Nat) (h:k * 64+64<=n):sec (List.replicate n 0) k=nought:=by
 unfold sec nought;rw[List.drop_replicate,List.take_replicate];congr 1;omega
theorem openSt_nought (m:Nat) (r:2<=m):openSt (List.replicate (m * 64) 0)=some (hd0,0,(List.range (m - 2)).map fun _=>rc0):=by
 have h0:=nought_sec (m * 64) 0 (by omega);have h1:=nought_sec (m * 64) 1 (by omega);have f:newest (List.replicate (m * 64) 0)=some (hd0,0):=by unfold newest;rw[h0,h1,headOk_nought.1,headOk_nought.2];rfl
 refine openSt_of f ?_;have:=recsFrom_at (L:=List.replicate (m * 64) 0) (last:=0) (by omega) (fun _=>rc0) (m - 2) 0 (fun y _ u=> .inl ⟨nought_sec _ _ (by omega),rfl⟩);rw[List.length_replicate,Nat.mul_div_cancel _ (by omega:0 < 64)];exact this
end Mod
namespace Mod
abbrev Pe:=Nat×ByteArray×Nat
def insP:List Pe->Pe->List Pe
 |[],e=>[e]
 |y::f,e=>if e.1=y.1 then e::f else if e.1 < y.1 then e::y::f else y::insP f e
structure Ld where
 free:List Nat
 sh:Nat->List Pe
def ldStep (g:Nat->Nat) (x:Nat) (f:Rc) (l:Ld):Option Ld:=
 if f.q<=g f.s then some {l with free:=l.free++[x]}
 else if((l.sh f.s).map (·.1)).contains f.q=true then none
 else some {l with sh:=fun i=>if i=f.s then insP (l.sh f.s) (f.q,f.b,x)else l.sh i}
def ldAll (g:Nat->Nat):List Rc->Nat->Ld->Option Ld
 |[],_,l=>some l
 |f::rs,x,l=>match ldStep g x f l with
  |none=>none
  |some r=>ldAll g rs (x+1) r
def lastP (l:List Pe) (b:Nat):Nat:=max (match l.getLast? with|none=>0|some x=>x.1) b
def okP (l:List Pe) (b:Nat):Bool:=decide (lastP l b<=1073741824) &&decide (lastP l b=b+l.length)
def ld0:Ld:=⟨[],fun _=>[]⟩
def agOf (op:Nat) (g:Nat->Nat) (l:Ld):Ag:={epoch:=op+1,ticks:=0,welcome:=false,fenced:=false,fl:=fun i=>if i < 3 then {base:=g i,kept:=(l.sh i).map fun e=>(e.2.1,0),held:=[]}else {base:=0,kept:=[],held:=[]}}
def agLoad (L:List UInt8):Option Ag:=
 match openSt L with
 |none=>none
 |some (h,_,rs)=>match ldAll h.num rs 0 ld0 with
  |none=>none
  |some l=>if okP (l.sh 0) (h.num 0)=true/\okP (l.sh 1) (h.num 1)=true/\okP (l.sh 2) (h.num 2)=true then some (agOf h.o h.num l)else none
def keptP:Nat->List (ByteArray×Nat)->List Nat->List Pe
 |b,x::f,q::r=>(b+1,x.1,q)::keptP (b+1) f r
 | _,_,_=>[]
theorem keptP_length:∀ (b:Nat) (k:List (ByteArray×Nat)) (p:List Nat),p.length=k.length->(keptP b k p).length=k.length
 | _,[],[],_=>rfl
 |b,_::f,_::r,h=>by rw[keptP,List.length_cons,keptP_length (b+1) f r (by simpa using h),List.length_cons]
theorem keptP_get:∀ (b:Nat) (k:List (ByteArray×Nat)) (p:List Nat) (j:Nat) (e:Pe),(keptP b k p)[j]? =some e->e.1=b+1+j/\(∃t,k[j]? =some (e.2.1,t))/\p[j]? =some e.2.2
 | _,[],_,j,e,h=>by simp[keptP]at h
 | _,_:: _,[],j,e,h=>by simp[keptP]at h
 |b,x::f,q::r,0,e,h=>by simp[keptP]at h;subst h;exact⟨rfl,⟨x.2,rfl⟩,rfl⟩
 |b,x::f,q::r,j+1,e,h=>by rw[keptP,List.getElem?_cons_succ]at h;obtain⟨h1,h2,h3⟩:=keptP_get (b+1) f r j e h;exact⟨by omega,h2,h3⟩
theorem keptP_gt:∀ (b:Nat) (k:List (ByteArray×Nat)) (p:List Nat),∀e∈keptP b k p,b < e.1
 | _,[],_,e,h=>by simp[keptP]at h
 | _,_:: _,[],e,h=>by simp[keptP]at h
 |b,x::f,q::r,e,h=>by
  rw[keptP]at h;cases h with
  |head=>show b < b+1;omega
  |tail _ h=>have:=keptP_gt (b+1) f r e h;omega
theorem keptP_sorted:∀ (b:Nat) (k:List (ByteArray×Nat)) (p:List Nat),(keptP b k p).Pairwise (fun x y=>x.1 < y.1)
 | _,[],_=>by simp[keptP]
 | _,_:: _,[]=>by simp[keptP]
 |b,x::f,q::r=>by rw[keptP,List.pairwise_cons];exact⟨fun e u=>keptP_gt (b+1) f r e u,keptP_sorted (b+1) f r⟩
theorem keptP_places:∀ (b:Nat) (k:List (ByteArray×Nat)) (p:List Nat),p.length=k.length->(keptP b k p).map (·.2.2)=p
 | _,[],[],_=>rfl
 |b,_::f,q::r,h=>by rw[keptP,List.map_cons,keptP_places (b+1) f r (by simpa using h)]
theorem keptP_bodies:∀ (b:Nat) (k:List (ByteArray×Nat)) (p:List Nat),p.length=k.length->(keptP b k p).map (·.2.1)=k.map (·.1)
 | _,[],[],_=>rfl
 |b,_::f,q::r,h=>by rw[keptP,List.map_cons,keptP_bodies (b+1) f r (by simpa using h)];rfl
theorem keptP_lastP (b:Nat) (k:List (ByteArray×Nat)) (p:List Nat) (h:p.length=k.length):lastP (keptP b k p) b=b+k.length:=by
 have hl:=keptP_length b k p h;unfold lastP;rw[List.getLast?_eq_getElem?];cases f:(keptP b k p)[(keptP b k p).length - 1]? with
 |none=>
  have:=List.getElem?_eq_none_iff.1 f;simp only
  omega
 |some e=>
  have h1:=(keptP_get _ _ _ _ _ f).1;have h2:=(List.getElem?_eq_some_iff.1 f).1;simp only
  omega
theorem insP_front {l:List Pe} {e:Pe} (h:∀y∈l,e.1 < y.1):insP l e=e::l:=by
 cases l with
 |nil=>rfl
 |cons y f=>have:=h y (.head _);rw[insP,if_neg (by omega),if_pos this]
theorem insP_filter {p z:Pe->Bool} {e:Pe}:∀ (l:List Pe),l.Pairwise (fun x y=>x.1 < y.1)->e∈l->p e=false->z e=true->(∀y∈l,y.1≠e.1->z y=p y)->l.filter z=insP (l.filter p) e
 |[],_,h,_,_,_=>by cases h
 |y::D,hs,f,h1,h2,h3=>by
  rw[List.pairwise_cons]at hs;by_cases G:y.1=e.1
  ·have J:y=e:=by
    cases f with
    |head=>rfl
    |tail _ f=>have:=hs.1 e f;omega
   subst J;have M:D.filter z=D.filter p:=List.filter_congr fun r u=>h3 r (.tail _ u) (by have:=hs.1 r u;omega);rw[List.filter_cons_of_pos h2,List.filter_cons_of_neg (by simp[h1]),M];exact(insP_front fun r u=>hs.1 r (List.mem_filter.1 u).1).symm
  ·have H:e∈D:=by
    cases f with
    |head=>exact absurd rfl G
    |tail _ f=>exact f
   have O:=hs.1 e H;have ih:=insP_filter D hs.2 H h1 h2 (fun r u=>h3 r (.tail _ u));have I:=h3 y (.head _) G;cases F:p y with
   |true=>rw[List.filter_cons_of_pos (by rw[I,F]),List.filter_cons_of_pos F,ih,insP,if_neg (by omega),if_neg (by omega)]
   |false=>rw[List.filter_cons_of_neg (by rw[I,F];simp),List.filter_cons_of_neg (by simp[F]),ih]
structure Places (a:Ag) (free:List Nat) (pl:Nat->List Nat):Prop where
 pn:∀i,i < 3->(pl i).length=(a.fl i).kept.length
 nd:(free++pl 0++pl 1++pl 2).Nodup
 lt:∀x∈free++pl 0++pl 1++pl 2,x < 24
 sum:free.length+a.room=24
structure AgDisk (L:List UInt8) (op ct hd:Nat) (a:Ag) (free:List Nat) (pl:Nat->List Nat):Prop where
 ok:DiskOk L op ct hd (fun i=>(a.fl i).base) 26
 rcs:∃rc:Nat->Rc,(∀x,x < 24->RecAt (sec L (2+x)) op (rc x))/\(∀i,i < 3->∀e∈keptP (a.fl i).base (a.fl i).kept (pl i),rc e.2.2=⟨i,e.1,e.2.1⟩)/\∀x∈free,(rc x).s < 3/\(rc x).q<=(a.fl (rc x).s).base
theorem nodupLt:∀ (n:Nat) (l:List Nat),l.Nodup->(∀x∈l,x < n)->l.length<=n
 |0,[],_,_=>Nat.le_refl _
 |0,x::l,_,h=>by have:=h x (.head _);omega
 |n+1,l,r,h=>by
  by_cases u:n∈l
  ·have h1:=nodupLt n (l.erase n) (r.erase n) (fun x f=>by
    have h2:=h x (List.mem_of_mem_erase f);have h3:x≠n:=fun e=>by subst e;exact(List.Nodup.not_mem_erase r) f
    omega)
   have:=List.length_erase_of_mem u;omega
  ·have:=nodupLt n l r (fun x f=>by have h2:=h x f;have h3:x≠n:=fun e=>u (by rw[<-e];exact f);omega);omega
theorem all_places {l:List Nat} {n:Nat} (r:l.Nodup) (hl:∀x∈l,x < n) (D:l.length=n):∀x,x < n->x∈l:=by
 intro x u;apply Classical.byContradiction;intro z;have:=nodupLt n (x::l) (List.nodup_cons.2 ⟨z,r⟩) (fun y f=>by
  cases f with
  |head=>exact u
  |tail _ f=>exact hl y f)
 simp at this;omega
theorem nodup_ix {l:List Nat} (f:l.Nodup) {i j x:Nat} (hi:l[i]? =some x) (hj:l[j]? =some x):i=j:=by
 obtain⟨h1,r⟩:=List.getElem?_eq_some_iff.1 hi;obtain⟨h2,u⟩:=List.getElem?_eq_some_iff.1 hj;rw[List.Nodup,List.pairwise_iff_getElem]at f;rcases Nat.lt_trichotomy i j with h|h|h
 ·exact absurd (r.trans u.symm) (f i j h1 h2 h)
 ·exact h
 ·exact absurd (u.trans r.symm) (f j i h2 h1 h)
theorem Places.all {a:Ag} {free:List Nat} {f:Nat->List Nat} (P:Places a free f):∀x,x < 24->x∈free\/∃i,i < 3/\x∈f i:=by
 have h0:=P.pn 0 (by omega);have h1:=P.pn 1 (by omega);have h2:=P.pn 2 (by omega);have hs:=P.sum;unfold Ag.room at hs;intro x r;have:=all_places P.nd P.lt (by simp;omega) x r;simp at this;rcases this with h|h|h|h
 ·exact .inl h
 ·exact .inr ⟨0,by omega,h⟩
 ·exact .inr ⟨1,by omega,h⟩
 ·exact .inr ⟨2,by omega,h⟩
theorem Places.apart {a:Ag} {free:List Nat} {u:Nat->List Nat} (P:Places a free u):(∀i,i < 3->(u i).Nodup)/\(∀x∈free,∀i,i < 3->x∉u i)/\∀i j,i < 3->j < 3->i≠j->∀x∈u i,x∉u j:=by
 have G:=P.nd;rw[List.nodup_append,List.nodup_append,List.nodup_append]at G;obtain⟨⟨⟨O,H,I⟩,J,D⟩,M,z⟩:=G;refine⟨fun i hi=>?_,fun x f i hi r=>?_,fun i j hi hj F x f r=>?_⟩
 ·obtain rfl|rfl|rfl:i=0\/i=1\/i=2:=by omega
  ·exact H
  ·exact J
  ·exact M
 ·obtain rfl|rfl|rfl:i=0\/i=1\/i=2:=by omega
  ·exact I x f x r rfl
  ·exact D x (by simp[f]) x r rfl
  ·exact z x (by simp[f]) x r rfl
 ·obtain rfl|rfl|rfl:i=0\/i=1\/i=2:=by omega
  all_goals obtain rfl|rfl|rfl:j=0\/j=1\/j=2:=by omega
  ·exact F rfl
  ·exact D x (by simp[f]) x r rfl
  ·exact z x (by simp[f]) x r rfl
  ·exact D x (by simp[r]) x f rfl
  ·exact F rfl
  ·exact z x (by simp[f]) x r rfl
  ·exact z x (by simp[r]) x f rfl
  ·exact z x (by simp[r]) x f rfl
  ·exact F rfl
theorem ldAll_disk {a:Ag} {free:List Nat} {f:Nat->List Nat} (P:Places a free f) (z:Nat->Rc) (ad:∀i,i < 3->∀e∈keptP (a.fl i).base (a.fl i).kept (f i),z e.2.2=⟨i,e.1,e.2.1⟩) (ah:∀x∈free,(z x).q<=(a.fl (z x).s).base):
  ∀ (n x:Nat) (l:Ld),x+n=24->(∀i,i < 3->l.sh i=(keptP (a.fl i).base (a.fl i).kept (f i)).filter fun e=>decide (e.2.2 < x))->
   ∃Z,ldAll (fun i=>(a.fl i).base) ((List.range n).map fun j=>z (x+j)) x l=some Z/\∀i,i < 3->Z.sh i=keptP (a.fl i).base (a.fl i).kept (f i):=by
 intro n;induction n with
 |zero=>
  intro x l ai hl;refine⟨l,rfl,fun i hi=>?_⟩;rw[hl i hi];refine List.filter_eq_self.2 fun e r=>?_;have F:e.2.2∈f i:=by rw[<-keptP_places (a.fl i).base (a.fl i).kept (f i) (P.pn i hi)];exact List.mem_map_of_mem r
  have:=P.lt e.2.2 (by
   obtain rfl|rfl|rfl:i=0\/i=1\/i=2:=by omega
   all_goals simp[F])
  simp;omega
 |succ n ih=>
  intro x l ai hl;obtain⟨aj,ak,ao⟩:=P.apart;rw[List.range_succ_eq_map,List.map_cons,List.map_map];have ap:(List.range n).map ((fun j=>z (x+j)) ∘Nat.succ)=(List.range n).map fun j=>z (x+1+j):=by apply List.map_congr_left;intro j _;show z (x+(j+1))=z (x+1+j);congr 1;omega
  rw[ap,Nat.add_zero];unfold ldAll;rcases P.all x (by omega)with aa|⟨i,hi,J⟩
  ·have aq:=ah x aa;unfold ldStep;rw[if_pos aq];simp only
   exact ih (x+1) {l with free:=l.free++[x]} (by omega) (fun i hi=>by
    show l.sh i= _;rw[hl i hi];refine List.filter_congr fun e r=>?_;have F:e.2.2∈f i:=by rw[<-keptP_places (a.fl i).base (a.fl i).kept (f i) (P.pn i hi)];exact List.mem_map_of_mem r
    have M:e.2.2≠x:=fun O=>ak x aa i hi (by rw[<-O];exact F);rw[decide_eq_decide];omega)
  ·obtain⟨e,r,Q⟩:∃e∈keptP (a.fl i).base (a.fl i).kept (f i),e.2.2=x:=by rw[<-keptP_places (a.fl i).base (a.fl i).kept (f i) (P.pn i hi)]at J;obtain⟨e,h1,h2⟩:=List.mem_map.1 J;exact⟨e,h1,h2⟩
   have ab:=ad i hi e r;rw[Q]at ab;have aC:=keptP_gt _ _ _ e r;have au:=keptP_sorted (a.fl i).base (a.fl i).kept (f i);have av:∀y∈keptP (a.fl i).base (a.fl i).kept (f i),y.1=e.1->y=e:=by
    intro y u h1;obtain⟨G,U,D⟩:=List.mem_iff_getElem.1 u;obtain⟨H,V,I⟩:=List.mem_iff_getElem.1 r;have k1:=(keptP_get _ _ _ G y (by rw[List.getElem?_eq_getElem U,D])).1;have k2:=(keptP_get _ _ _ H e (by rw[List.getElem?_eq_getElem V,I])).1;have:G=H:=by omega
    subst this;rw[<-D,<-I]
   have ax:∀y∈keptP (a.fl i).base (a.fl i).kept (f i),y.2.2=x->y=e:=by intro y u h1;obtain⟨G,U,D⟩:=List.mem_iff_getElem.1 u;obtain⟨H,V,I⟩:=List.mem_iff_getElem.1 r;have k1:=(keptP_get _ _ _ G y (by rw[List.getElem?_eq_getElem U,D])).2.2;have k2:=(keptP_get _ _ _ H e (by rw[List.getElem?_eq_getElem V,I])).2.2;rw[h1]at k1;rw[Q]at k2;have:G=H:=nodup_ix (aj i hi) k1 k2;subst this;rw[<-D,<-I]
   unfold ldStep;rw[ab];simp only
   rw[if_neg (by omega),hl i hi];have ay:(((keptP (a.fl i).base (a.fl i).kept (f i)).filter fun e=>decide (e.2.2 < x)).map (·.1)).contains e.1=false:=by
    cases ac:(((keptP (a.fl i).base (a.fl i).kept (f i)).filter fun e=>decide (e.2.2 < x)).map (·.1)).contains e.1 with
    |false=>rfl
    |true=>rw[List.contains_iff_mem]at ac;obtain⟨y,u,D⟩:=List.mem_map.1 ac;obtain⟨az,aA⟩:=List.mem_filter.1 u;have:=av y az D;subst this;simp at aA;omega
   rw[ay,if_neg (by simp)];simp only
   exact ih (x+1) {l with sh:=fun k=>if k=i then insP ((keptP (a.fl i).base (a.fl i).kept (f i)).filter fun e=>decide (e.2.2 < x)) (e.1,e.2.1,x)else l.sh k} (by omega) (fun k X=>by
    show(if k=i then _ else l.sh k)= _;by_cases Y:k=i
    ·subst Y;rw[if_pos rfl];have aB:((e.1,e.2.1,x):Pe)=e:=by rw[<-Q]
     rw[aB];exact(insP_filter _ au r (by simp;omega) (by simp;omega) (fun y u M=>by have:y.2.2≠x:=fun h1=>M (by rw[ax y u h1]);rw[decide_eq_decide];omega)).symm
    ·rw[if_neg Y,hl k X];refine List.filter_congr fun y u=>?_;have F:y.2.2∈f k:=by rw[<-keptP_places (a.fl k).base (a.fl k).kept (f k) (P.pn k X)];exact List.mem_map_of_mem u
     have M:y.2.2≠x:=fun O=>ao k i X hi Y x (by rw[<-O];exact F) J;rw[decide_eq_decide];omega)
end Mod
namespace Mod
def reop (a:Ag):Ag:={epoch:=a.epoch+1,ticks:=0,welcome:=false,fenced:=false,fl:=fun i=>if i < 3 then {base:=(a.fl i).base,kept:=(a.fl i).kept.map fun x=>(x.1,0),held:=[]}else {base:=0,kept:=[],held:=[]}}
theorem agLoad_of {L:List UInt8} {h:Hd} {at':Nat} {rs:List Rc} {l:Ld} (h1:openSt L=some (h,at',rs)) (h2:ldAll h.num rs 0 ld0=some l) (h3:∀i,i < 3->okP (l.sh i) (h.num i)=true):agLoad L=some (agOf h.o h.num l):=by
 unfold agLoad;rw[h1];simp only
 rw[h2];simp only
 rw[if_pos ⟨h3 0 (by omega),h3 1 (by omega),h3 2 (by omega)⟩]
theorem agLoad_some {L:List UInt8} {a:Ag} (h:agLoad L=some a):∃hd at' rs l,openSt L=some (hd,at',rs)/\ldAll hd.num rs 0 ld0=some l/\(∀i,i < 3->okP (l.sh i) (hd.num i)=true)/\a=agOf hd.o hd.num l:=by
 unfold agLoad at h;cases r:openSt L with
 |none=>rw[r]at h;cases h
 |some p=>
  obtain⟨hd,at',rs⟩:=p;rw[r]at h;simp only at h;cases hl:ldAll hd.num rs 0 ld0 with
  |none=>rw[hl]at h;cases h
  |some l=>
   rw[hl]at h;simp only at h;split at h
   ·rename_i f;cases h;refine⟨hd,at',rs,l,rfl,hl,fun i hi=>?_,rfl⟩;obtain rfl|rfl|rfl:i=0\/i=1\/i=2:=by omega
    ·exact f.1
    ·exact f.2.1
    ·exact f.2.2
   ·cases h
theorem num_fun (g:Nat->Nat) (op c i:Nat) (hi:i < 3):Hd.num ⟨op,c,g 0,g 1,g 2⟩ i=g i:=by
 unfold Hd.num;obtain rfl|rfl|rfl:i=0\/i=1\/i=2:=by omega
 all_goals rfl
theorem ldAll_num {g g':Nat->Nat} (r:∀i,i < 3->g i=g' i):∀ (rs:List Rc) (x:Nat) (l:Ld),(∀f∈rs,f.s < 3)->ldAll g rs x l=ldAll g' rs x l
 |[],_,_,_=>rfl
 |f::rs,x,l,h=>by
  have e:ldStep g x f l=ldStep g' x f l:=by unfold ldStep;rw[r f.s (h f (.head _))]
  unfold ldAll;rw[e];split
  ·rfl
  ·exact ldAll_num r rs (x+1) _ (fun u z=>h u (.tail _ z))
theorem AgDisk.loads {L:List UInt8} {op ct hd:Nat} {a:Ag} {free:List Nat} {u:Nat->List Nat} (D:AgDisk L op ct hd a free u) (P:Places a free u) (G:a.epoch=op) (H:op<=1073741824) (I:∀i,i < 3->(a.fl i).base+(a.fl i).kept.length<=1073741824):
  agLoad L=some (reop a):=by
 obtain⟨f,F,J,M⟩:=D.rcs;obtain⟨c,O⟩:=D.ok.opens H f (fun x r=>F x r);obtain⟨l,hl,hs⟩:=ldAll_disk P f J (fun x r=>(M x r).2) 24 0 ld0 (by omega) (fun i _=>(List.filter_eq_nil_iff.2 fun e _=>by simp).symm);have Q:(List.range 24).map (fun j=>f (0+j))=(List.range (26 - 2)).map f:=by apply List.map_congr_left;intro j _;rw[Nat.zero_add]
 rw[Q]at hl;have z:=fun i hi=>num_fun (fun i=>(a.fl i).base) op c i hi;have U:ldAll (Hd.num ⟨op,c,(a.fl 0).base,(a.fl 1).base,(a.fl 2).base⟩) ((List.range (26 - 2)).map f) 0 ld0=some l:=by
  rw[ldAll_num (g':=fun i=>(a.fl i).base) z _ _ _ ?_]
  ·exact hl
  ·intro Y V;obtain⟨x,r,rfl⟩:=List.mem_map.1 V;rcases F x (by simpa using r)with ⟨_,e⟩|⟨_,_,_,_,_,_,X,_⟩
   ·rw[e];simp[rc0]
   ·exact X.1
 rw[agLoad_of O U (fun i hi=>by rw[z i hi,hs i hi];have:=I i hi;unfold okP;rw[keptP_lastP _ _ _ (P.pn i hi),keptP_length _ _ _ (P.pn i hi)];simp;omega)];unfold agOf reop;congr 2
 ·rw[G]
 ·funext i;by_cases hi:i < 3
  ·rw[if_pos hi,if_pos hi,z i hi,hs i hi];congr 1;have:=keptP_bodies (a.fl i).base (a.fl i).kept (u i) (P.pn i hi);have h2:=congrArg (List.map fun b:ByteArray=>(b,0)) this;rw[List.map_map,List.map_map]at h2;exact h2
  ·rw[if_neg hi,if_neg hi]
theorem keptP_same:∀ (b:Nat) (k f:List (ByteArray×Nat)) (p:List Nat),k.map (·.1)=f.map (·.1)->keptP b k p=keptP b f p
 | _,[],[],_,_=>rfl
 |b,[],_:: _,p,h=>by simp at h
 |b,_:: _,[],p,h=>by simp at h
 |b,x::r,y::s,[],_=>by simp[keptP]
 |b,x::r,y::s,q::u,h=>by simp only[List.map_cons,List.cons.injEq]at h;rw[keptP,keptP,h.1,keptP_same (b+1) r s u h.2]
theorem keptP_app:∀ (b:Nat) (k f:List (ByteArray×Nat)) (p r:List Nat),p.length=k.length->keptP b (k++f) (p++r)=keptP b k p++keptP (b+k.length) f r
 |b,[],f,[],r,_=>by simp[keptP]
 |b,[],f,q::z,r,h=>by simp at h
 |b,x::u,f,[],r,h=>by simp at h
 |b,x::u,f,q::z,r,h=>by show keptP b (x::(u++f)) (q::(z++r))= _;rw[keptP,keptP,keptP_app (b+1) u f z r (by simpa using h),List.length_cons,show b+1+u.length=b+(u.length+1) by omega];rfl
theorem keptP_drop:∀ (n b:Nat) (k:List (ByteArray×Nat)) (p:List Nat),n<=k.length->p.length=k.length->keptP (b+n) (k.drop n) (p.drop n)=(keptP b k p).drop n
 |0,b,k,p,_,_=>rfl
 |n+1,b,[],p,h,_=>by simp at h
 |n+1,b,x::f,[],_,h=>by simp at h
 |n+1,b,x::f,q::r,h,h2=>by rw[List.drop_succ_cons,List.drop_succ_cons,keptP,List.drop_succ_cons,<-keptP_drop n (b+1) f r (by simpa using h) (by simpa using h2),show b+1+n=b+(n+1) by omega]
theorem AgDisk.same {L:List UInt8} {op ct hd:Nat} {a a':Ag} {free:List Nat} {u:Nat->List Nat} (z:AgDisk L op ct hd a free u) (f:∀i,i < 3->(a'.fl i).base=(a.fl i).base/\(a'.fl i).kept.map (·.1)=(a.fl i).kept.map (·.1)):AgDisk L op ct hd a' free u:=by
 obtain⟨D,F,H,I⟩:=z.rcs;obtain⟨k1,k2,k3,k4,k5,k6,k7,c,k8,k9,k10⟩:=z.ok;have h3:∀x,x < 24->(D x).s < 3:=fun x r=>by
  rcases F x r with ⟨_,e⟩|⟨_,_,_,_,_,_,J,_⟩
  ·rw[e];simp[rc0]
  ·exact J.1
 refine⟨⟨k1,k2,k3,k4,k5,k6,fun i hi=>by rw[(f i hi).1];exact k7 i hi,c,k8,?_,k10⟩,D,F,fun i hi e G=>?_,fun x r=>?_⟩
 ·rw[(f 0 (by omega)).1,(f 1 (by omega)).1,(f 2 (by omega)).1];exact k9
 ·rw[(f i hi).1,keptP_same _ _ _ _ (f i hi).2]at G;exact H i hi e G
 ·obtain⟨h1,h2⟩:=I x r;exact⟨h1,by rw[(f _ h1).1];exact h2⟩
theorem AgDisk.submit {L:List UInt8} {op ct hd:Nat} {a:Ag} {fr:List Nat} {x:Nat} {r:Nat->List Nat} (z:AgDisk L op ct hd a (fr++[x]) r) (P:Places a (fr++[x]) r) {s:Nat} (hs:s < 3) {b:ByteArray} (J:b.size<=20) (M:ct+1 < 18446744073709551616) (X:(a.fl s).base+(a.fl s).kept.length+1<=2147483647):
  AgDisk (setSec L (2+x) (sealR op (ct+1) ⟨s,(a.fl s).base+(a.fl s).kept.length+1,b⟩)) op (ct+1) hd (a.submit s b) fr (fun t=>if t=s then r s++[x]else r t):=by
 obtain⟨Y,Z,O,aa⟩:=z.rcs;have ap:x < 24:=P.lt x (by simp);have F:(sealR op (ct+1) ⟨s,(a.fl s).base+(a.fl s).kept.length+1,b⟩).length=64:=length_sealR J;have hl:=z.ok.len;have G:∀j,(a.submit s b).fl j=if j=s then {a.fl s with kept:=(a.fl s).kept++[(b,0)]}else a.fl j:=fun j=>rfl
 have Q:∀j,((a.submit s b).fl j).base=(a.fl j).base:=fun j=>by
  rw[G];split
  ·rename_i e;rw[e]
  ·rfl
 have ab:Rc.fits ⟨s,(a.fl s).base+(a.fl s).kept.length+1,b⟩:=⟨hs,by show 1<=(a.fl s).base+ _+1;omega,X,J⟩;obtain⟨aq,ac,au⟩:=P.apart;have ad:∀i,i < 3->x∉r i:=ac x (by simp);have ah:x∉fr:=by have:=P.nd;rw[List.nodup_append,List.nodup_append,List.nodup_append]at this;obtain⟨⟨⟨U,_⟩,_⟩,_⟩:=this;rw[List.nodup_append]at U;intro ai;exact U.2.2 x ai x (by simp) rfl
 have aj:=z.ok.record (x:=x) F (by omega) M;have ak:(fun i=>((a.submit s b).fl i).base)=fun i=>(a.fl i).base:=funext Q;obtain⟨H,u⟩:∃H:Nat->Rc,∀y,H y=if y=x then⟨s,(a.fl s).base+(a.fl s).kept.length+1,b⟩else Y y:=⟨_,fun _=>rfl⟩
 refine⟨by rw[ak];exact aj,H,fun y D=>?_,fun i hi e f=>?_,fun y D=>?_⟩
 ·by_cases e:y=x
  ·subst e;rw[u,if_pos rfl,sec_set F (by omega)];exact .inr ⟨op,ct+1,z.ok.op1,Nat.le_refl _,z.ok.opm,M,ab,rfl⟩
  ·rw[u,if_neg e,sec_other F (by omega) (by omega)];exact Z y D
 ·have V:∀i,i < 3->∀e∈keptP (a.fl i).base (a.fl i).kept (r i),e.2.2≠x:=fun i hi e f h1=>by apply ad i hi;rw[<-keptP_places (a.fl i).base (a.fl i).kept (r i) (P.pn i hi),<-h1];exact List.mem_map_of_mem f
  by_cases I:i=s
  ·subst I;rw[G,if_pos rfl,if_pos rfl,keptP_app _ _ _ _ _ (P.pn i hi),List.mem_append]at f;rcases f with f|f
   ·rw[u,if_neg (V i hi e f)];exact O i hi e f
   ·simp only[keptP,List.mem_singleton]at f;subst f;rw[u,if_pos rfl]
  ·rw[G,if_neg I,if_neg I]at f;rw[u,if_neg (V i hi e f)];exact O i hi e f
 ·have ao:y≠x:=fun e=>ah (by rw[<-e];exact D);rw[u,if_neg ao,Q];exact aa y (by simp[D])
theorem AgDisk.gone {L:List UInt8} {op ct hd:Nat} {a a':Ag} {free free':List Nat} {f pl':Nat->List Nat} (z:AgDisk L op ct hd a free f) (P:Places a free f) (n:Nat->Nat) (F:∀i,i < 3->n i<=(a.fl i).kept.length) (r:∀i,i < 3->(a'.fl i).base=(a.fl i).base+n i/\(a'.fl i).kept.map (·.1)=((a.fl i).kept.drop (n i)).map (·.1))
  (J:∀i,i < 3->pl' i=(f i).drop (n i)) (M:∀x∈free',x∈free\/∃i,i < 3/\x∈ (f i).take (n i)) (O:ct+1 < 18446744073709551616) (Q:∀i,i < 3->(a.fl i).base+(a.fl i).kept.length<=2147483647):
  AgDisk (setSec L (1 - hd) (sealH ⟨op,ct+1,(a'.fl 0).base,(a'.fl 1).base,(a'.fl 2).base⟩)) op (ct+1) (1 - hd) a' free' pl':=by
 obtain⟨U,V,G,X⟩:=z.rcs;have hl:=z.ok.len;refine⟨z.ok.numbers (g':=fun i=>(a'.fl i).base) (fun i hi=>by have:=Q i hi;have:=F i hi;rw[(r i hi).1];omega) O,U,fun y D=>?_,fun i hi e H=>?_,fun y D=>?_⟩
 ·rw[sec_other (length_sealH _) (by omega) (by omega)];exact V y D
 ·rw[(r i hi).1,keptP_same _ _ _ _ (r i hi).2,J i hi,keptP_drop _ _ _ _ (F i hi) (P.pn i hi)]at H;exact G i hi e (List.mem_of_mem_drop H)
 ·rcases M y D with h|⟨i,hi,h⟩
  ·obtain⟨h1,h2⟩:=X y h;exact⟨h1,by rw[(r _ h1).1];omega⟩
  ·obtain⟨j,hj,e⟩:=List.mem_iff_getElem.1 h;have Y:j < n i/\j < (f i).length:=by simp at hj;omega
   have Z:(f i)[j]? =some y:=by rw[List.getElem_take]at e;rw[List.getElem?_eq_getElem Y.2,e]
   have ab:=keptP_length (a.fl i).base (a.fl i).kept (f i) (P.pn i hi);have ac:=P.pn i hi;have I:j < (keptP (a.fl i).base (a.fl i).kept (f i)).length:=by omega
   obtain⟨g1,g2,u⟩:=keptP_get _ _ _ j _ (List.getElem?_eq_getElem I);rw[Z]at u;have aa:(keptP (a.fl i).base (a.fl i).kept (f i))[j].2.2=y:=by injection u with u;exact u.symm
   have:=G i hi _ (List.getElem_mem I);rw[aa]at this;rw[this];refine⟨hi,?_⟩;show(keptP (a.fl i).base (a.fl i).kept (f i))[j].1<=(a'.fl i).base;rw[g1,(r i hi).1];omega
end Mod
namespace Mod
theorem insP_perm {e:Pe}:∀ {l:List Pe},(∀y∈l,y.1≠e.1)->(insP l e).Perm (e::l)
 |[],_=>List.Perm.refl _
 |y::f,h=>by
  have h1:=h y (.head _);unfold insP;rw[if_neg (fun r=>h1 r.symm)];split
  ·exact List.Perm.refl _
  ·exact((insP_perm (fun u z=>h u (.tail _ z))).cons y).trans (List.Perm.swap e y f)
theorem insP_sorted {e:Pe}:∀ {l:List Pe},l.Pairwise (fun x y=>x.1 < y.1)->(∀y∈l,y.1≠e.1)->(insP l e).Pairwise (fun x y=>x.1 < y.1)
 |[],_,_=>by simp[insP]
 |y::z,hs,h=>by
  have h1:=h y (.head _);rw[List.pairwise_cons]at hs;unfold insP;rw[if_neg (fun D=>h1 D.symm)];split
  ·rename_i u;rw[List.pairwise_cons,List.pairwise_cons];refine⟨fun r f=>?_,hs.1,hs.2⟩;cases f with
   |head=>exact u
   |tail _ f=>exact Nat.lt_trans u (hs.1 r f)
  ·rename_i u;rw[List.pairwise_cons];refine⟨fun r f=>?_,insP_sorted hs.2 (fun r f=>h r (.tail _ f))⟩;have:=(insP_perm (fun r f=>h r (.tail _ f)):(insP z e).Perm (e::z)).subset f;cases this with
   |head=>omega
   |tail _ f=>exact hs.1 r f
structure LdInv (g:Nat->Nat) (rs:List Rc) (x:Nat) (l:Ld):Prop where
 srt:∀i,(l.sh i).Pairwise (fun y z=>y.1 < z.1)
 rcd:∀i,∀e∈l.sh i,g i < e.1/\e.2.2 < x/\rs[e.2.2]? =some ⟨i,e.1,e.2.1⟩
 fre:∀y∈l.free,y < x/\∃r,rs[y]? =some r/\r.q<=g r.s
 nd:(l.free++(l.sh 0).map (·.2.2)++(l.sh 1).map (·.2.2)++(l.sh 2).map (·.2.2)).Nodup
 sum:l.free.length+(l.sh 0).length+(l.sh 1).length+(l.sh 2).length=x
theorem ldInv_zero (g:Nat->Nat) (rs:List Rc):LdInv g rs 0 ld0:=
 ⟨fun i=>List.Pairwise.nil,fun i e f=>by simp[ld0]at f,fun y r=>by simp[ld0]at r,by simp[ld0],rfl⟩
theorem LdInv.step {g:Nat->Nat} {rs:List Rc} {x:Nat} {l M:Ld} {f:Rc} (h:LdInv g rs x l) (O:rs[x]? =some f) (hs:f.s < 3) (hl:ldStep g x f l=some M):LdInv g rs (x+1) M:=by
 have V:∀y∈l.free++(l.sh 0).map (·.2.2)++(l.sh 1).map (·.2.2)++(l.sh 2).map (·.2.2),y < x:=by
  intro y r;simp only[List.mem_append,List.mem_map]at r;rcases r with ((r|⟨e,u,rfl⟩)|⟨e,u,rfl⟩)|⟨e,u,rfl⟩
  ·exact(h.fre y r).1
  ·exact(h.rcd 0 e u).2.1
  ·exact(h.rcd 1 e u).2.1
  ·exact(h.rcd 2 e u).2.1
 have X:x∉l.free++(l.sh 0).map (·.2.2)++(l.sh 1).map (·.2.2)++(l.sh 2).map (·.2.2):=fun F=>Nat.lt_irrefl _ (V x F);have Q:=List.nodup_cons.2 ⟨X,h.nd⟩;unfold ldStep at hl;split at hl
 ·rename_i I;cases hl;refine⟨h.srt,fun i e u=>⟨(h.rcd i e u).1,Nat.lt_succ_of_lt (h.rcd i e u).2.1,(h.rcd i e u).2.2⟩,fun y r=>?_,?_,?_⟩
  ·rw[List.mem_append,List.mem_singleton]at r;rcases r with r|rfl
   ·exact⟨Nat.lt_succ_of_lt (h.fre y r).1,(h.fre y r).2⟩
   ·exact⟨Nat.lt_succ_self _,f,O,I⟩
  ·refine(List.Perm.nodup_iff ?_).2 Q;simp only[List.append_assoc];exact List.perm_middle
  ·have:=h.sum;simp only[List.length_append,List.length_singleton];omega
 ·rename_i I;split at hl
  ·cases hl
  ·rename_i Y;cases hl;have U:∀y∈l.sh f.s,y.1≠f.q:=fun y r e=>Y (by rw[List.contains_iff_mem];exact List.mem_map.2 ⟨y,r,e⟩);have J:(insP (l.sh f.s) (f.q,f.b,x)).Perm ((f.q,f.b,x)::l.sh f.s):=insP_perm U;have z:((insP (l.sh f.s) (f.q,f.b,x)).map (·.2.2)).Perm (x::(l.sh f.s).map (·.2.2)):=J.map _;refine⟨fun i=>?_,fun i e u=>?_,fun y r=>⟨Nat.lt_succ_of_lt (h.fre y r).1,(h.fre y r).2⟩,?_,?_⟩
   ·show List.Pairwise _ (if i=f.s then insP (l.sh f.s) (f.q,f.b,x)else l.sh i);split
    ·exact insP_sorted (h.srt f.s) U
    ·exact h.srt i
   ·have D:e∈ (if i=f.s then insP (l.sh f.s) (f.q,f.b,x)else l.sh i):=u;by_cases G:i=f.s
    ·rw[if_pos G]at D;have:=J.subset D;cases this with
     |head=>rw[G];exact⟨Nat.lt_of_not_le I,Nat.lt_succ_self _,O⟩
     |tail _ F=>rw[G];exact⟨(h.rcd f.s e F).1,Nat.lt_succ_of_lt (h.rcd f.s e F).2.1,(h.rcd f.s e F).2.2⟩
    ·rw[if_neg G]at D;exact⟨(h.rcd i e D).1,Nat.lt_succ_of_lt (h.rcd i e D).2.1,(h.rcd i e D).2.2⟩
   ·refine(List.Perm.nodup_iff ?_).2 Q;show(l.free++(if 0=f.s then insP (l.sh f.s) (f.q,f.b,x)else l.sh 0).map (·.2.2)++(if 1=f.s then insP (l.sh f.s) (f.q,f.b,x)else l.sh 1).map (·.2.2)++(if 2=f.s then insP (l.sh f.s) (f.q,f.b,x)else l.sh 2).map (·.2.2)).Perm _;obtain e|e|e:f.s=0\/f.s=1\/f.s=2:=by omega
    ·rw[e]at z ⊢;rw[if_pos rfl,if_neg (by omega),if_neg (by omega)];simp only[List.append_assoc];exact((List.Perm.append_left _ (List.Perm.append_right _ z))).trans List.perm_middle
    ·rw[e]at z ⊢;rw[if_neg (by omega),if_pos rfl,if_neg (by omega)];simp only[List.append_assoc];refine(List.Perm.append_left _ (List.Perm.append_left _ (List.Perm.append_right _ z))).trans ?_;rw[List.cons_append,<-List.append_assoc l.free,<-List.append_assoc l.free];exact List.perm_middle
    ·rw[e]at z ⊢;rw[if_neg (by omega),if_neg (by omega),if_pos rfl];exact(List.Perm.append_left _ z).trans List.perm_middle
   ·have H:=J.length_eq;rw[List.length_cons]at H;have:=h.sum;show l.free.length+(if 0=f.s then insP (l.sh f.s) (f.q,f.b,x)else l.sh 0).length+(if 1=f.s then insP (l.sh f.s) (f.q,f.b,x)else l.sh 1).length+(if 2=f.s then insP (l.sh f.s) (f.q,f.b,x)else l.sh 2).length=x+1;obtain e|e|e:f.s=0\/f.s=1\/f.s=2:=by omega
    ·rw[e]at H ⊢;rw[if_pos rfl,if_neg (by omega),if_neg (by omega)];omega
    ·rw[e]at H ⊢;rw[if_neg (by omega),if_pos rfl,if_neg (by omega)];omega
    ·rw[e]at H ⊢;rw[if_neg (by omega),if_neg (by omega),if_pos rfl];omega
theorem ldInv_all {g:Nat->Nat} {rs:List Rc}:∀ (f:List Rc) (x:Nat) (l r:Ld),(∀j,f[j]? =rs[x+j]?)->(∀u∈f,u.s < 3)->LdInv g rs x l->ldAll g f x l=some r->LdInv g rs (x+f.length) r
 |[],x,l,r,_,_,h,hl=>by cases hl;exact h
 |u::f,x,l,r,D,hs,h,hl=>by
  unfold ldAll at hl;cases z:ldStep g x u l with
  |none=>rw[z]at hl;cases hl
  |some F=>rw[z]at hl;have h0:=D 0;rw[List.getElem?_cons_zero,Nat.add_zero]at h0;have:=ldInv_all f (x+1) F r (fun j=>by have:=D (j+1);rw[List.getElem?_cons_succ]at this;rw[this];congr 1;omega) (fun G H=>hs G (.tail _ H)) (h.step h0.symm (hs u (.head _)) z) hl;rw[List.length_cons,show x+(f.length+1)=x+1+f.length by omega];exact this
theorem sorted_room:∀ (r:List Pe) (c f:Nat),c<=f->r.Pairwise (fun x y=>x.1 < y.1)->(∀y∈r,c < y.1/\y.1<=f)->c+r.length<=f
 |[],c,f,h,_,_=>by simpa using h
 |y::r,c,f,h,hs,u=>by rw[List.pairwise_cons]at hs;have h1:=u y (.head _);have:=sorted_room r y.1 f h1.2 hs.2 (fun z D=>⟨hs.1 z D,(u z (.tail _ D)).2⟩);rw[List.length_cons];omega
theorem keptP_of:∀ (l:List Pe) (b:Nat),l.Pairwise (fun x y=>x.1 < y.1)->(∀e∈l,b < e.1/\e.1<=b+l.length)->keptP b (l.map fun e=>(e.2.1,0)) (l.map (·.2.2))=l
 |[],_,_,_=>rfl
 |e::u,b,hs,z=>by
  rw[List.pairwise_cons]at hs;have h1:=z e (.head _);rw[List.length_cons]at h1;have h2:=sorted_room u e.1 (b+(u.length+1)) h1.2 hs.2 (fun f r=>⟨hs.1 f r,by have:=(z f (.tail _ r)).2;rw[List.length_cons]at this;exact this⟩);have h3:e.1=b+1:=by omega
  rw[List.map_cons,List.map_cons,keptP];have:=keptP_of u (b+1) hs.2 (fun f r=>⟨by have:=hs.1 f r;omega,by have:=(z f (.tail _ r)).2;rw[List.length_cons]at this;omega⟩);rw[this,<-h3]
theorem lastP_bound {l:List Pe} {b:Nat} (hs:l.Pairwise (fun x y=>x.1 < y.1)):∀e∈l,e.1<=lastP l b:=by
 intro e r;obtain⟨j,hj,f⟩:=List.mem_iff_getElem.1 r;unfold lastP;rw[List.getLast?_eq_getElem?,List.getElem?_eq_getElem (by omega:l.length - 1 < l.length)];simp only
 by_cases h:j=l.length - 1
 ·subst h;rw[<-f];omega
 ·have:=List.pairwise_iff_getElem.1 hs j (l.length - 1) hj (by omega) (by omega);rw[f]at this;omega
def plOf (l:Ld) (i:Nat):List Nat:=(l.sh i).map (·.2.2)
theorem agDisk_opened {L:List UInt8} {hd:Hd} {at':Nat} {rs:List Rc} {l:Ld} (O:openSt L=some (hd,at',rs)) (hl:ldAll hd.num rs 0 ld0=some l) (Q:∀i,i < 3->okP (l.sh i) (hd.num i)=true) (U:L.length=1664):
  AgDisk (openL L hd at') (hd.o+1) 1 (1 - at') (agOf hd.o hd.num l) l.free (plOf l)/\Places (agOf hd.o hd.num l) l.free (plOf l)/\(∀i,i < 3->keptP (hd.num i) ((l.sh i).map fun e=>(e.2.1,0)) (plOf l i)=l.sh i):=by
 obtain⟨V,H⟩:=openSt_some O;rw[U]at H;obtain⟨X,I⟩:=recsFrom_some _ _ H;have Y:∀x,x < 24->RecAt (sec L (2+x)) (hd.o+1) (rs.getD x rc0):=fun x f=>by obtain⟨k1,k2⟩:=I x f;rw[Nat.zero_add]at k1 k2;rw[List.getD_eq_getElem?_getD,k2];exact(recAt_ok k1).up (by omega)
 have J:∀F∈rs,F.s < 3:=fun F H=>by obtain⟨x,f,e⟩:=List.mem_iff_getElem.1 H;obtain⟨k1,k2⟩:=I x (by omega);rw[List.getElem?_eq_getElem f,e]at k2;cases k2;exact(recOk_small k1).1
 have r:=ldInv_all (g:=hd.num) (rs:=rs) rs 0 ld0 l (fun j=>by rw[Nat.zero_add]) J (ldInv_zero _ _) hl;have Z:rs.length=24:=X;rw[Z,Nat.zero_add]at r;have z:=opened_ok V (m:=26) (by omega) (by omega);have M:∀i,i < 3->keptP (hd.num i) ((l.sh i).map fun e=>(e.2.1,0)) (plOf l i)=l.sh i:=fun i hi=>by refine keptP_of _ _ (r.srt i) (fun e u=>⟨(r.rcd i e u).1,?_⟩);have h1:=Q i hi;unfold okP at h1;simp only[Bool.and_eq_true,decide_eq_true_eq]at h1;rw[<-h1.2];exact lastP_bound (r.srt i) e u
 have D:∀i,i < 3->((agOf hd.o hd.num l).fl i).base=hd.num i:=fun i hi=>by unfold agOf;simp only;rw[if_pos hi]
 have G:∀i,i < 3->((agOf hd.o hd.num l).fl i).kept=(l.sh i).map fun e=>(e.2.1,0):=fun i hi=>by unfold agOf;simp only;rw[if_pos hi]
 refine⟨⟨⟨z.len,z.two,z.hd1,z.op1,z.opm,z.ctm,fun i hi=>by rw[D i hi];exact z.sm i hi,?_⟩,fun x=>rs.getD x rc0,fun x f=>?_,fun i hi e u=>?_,fun x f=>?_⟩,⟨fun i hi=>?_,r.nd,fun x f=>?_,?_⟩,M⟩
 ·rw[D 0 (by omega),D 1 (by omega),D 2 (by omega)];exact z.hs
 ·rw[openL_other (m:=26) (by omega) (by omega) (by omega)];exact Y x f
 ·rw[D i hi,G i hi,M i hi]at u;show rs.getD e.2.2 rc0= _;rw[List.getD_eq_getElem?_getD,(r.rcd i e u).2.2];rfl
 ·obtain⟨_,F,h1,h2⟩:=r.fre x f;have:rs.getD x rc0=F:=by rw[List.getD_eq_getElem?_getD,h1];rfl
  show(rs.getD x rc0).s < 3/\(rs.getD x rc0).q<=((agOf hd.o hd.num l).fl (rs.getD x rc0).s).base;rw[this];have h3:=J F (List.mem_of_getElem? h1);exact⟨h3,by rw[D _ h3];exact h2⟩
 ·rw[G i hi];simp[plOf]
 ·simp only[List.mem_append,plOf,List.mem_map]at f;rcases f with ((f|⟨e,u,rfl⟩)|⟨e,u,rfl⟩)|⟨e,u,rfl⟩
  ·exact(r.fre x f).1
  ·exact(r.rcd 0 e u).2.1
  ·exact(r.rcd 1 e u).2.1
  ·exact(r.rcd 2 e u).2.1
 ·have:=r.sum;unfold Ag.room;rw[G 0 (by omega),G 1 (by omega),G 2 (by omega)];simp only[List.length_map];omega
end Mod
end Go.Proofs.YtamafdcnbcoegaaGreat
namespace Go.Proofs.YtamafdcnbcoegaaGreat
open Go.RowKit
structure eR' (op ct n:Nat) (st:Mod.Stv) (a:Mod.Ag) (free:List Nat) (pl:Nat->List Nat):Prop where
 dead:st.dk.dead=false
 arm:st.dk.armed=n
 op:st.opening=op
 ct:st.count<=ct
 dk:Mod.AgDisk st.dk.bytes st.opening st.count st.head a free pl
structure uM' (op:Nat) (st:Mod.Stv) (a:Mod.Ag):Prop where
 dead:st.dk.dead=true
 op:st.opening=op
 dk:∃ct hd free pl,Mod.AgDisk st.dk.bytes st.opening ct hd a free pl/\Mod.Places a free pl
theorem aO'.places {a:Mod.Ag} {op:Nat} {g:Nat->Nat} {free:List Nat} {sh:Nat->List (Nat×Value)} {r:Nat->List Nat} (f:aO' a op g free sh r):Mod.Places a free r:=⟨f.pn,f.nd,f.lt,f.sum⟩
theorem mz' {op ct n:Nat} {st:Mod.Stv} {a:Mod.Ag} {free:List Nat} {f:Nat->List Nat} (h:eR' op ct n st a free f) (r:ct+1 < 18446744073709551616):st.next=st.count+1:=by
 have:=h.ct;unfold Mod.Stv.next
 omega
theorem tN' {op ct n:Nat} {st:Mod.Stv} {a:Mod.Ag} {fr:List Nat} {q:Nat} {f:Nat->List Nat} (h:eR' op ct n st a (fr++[q]) f) (D:ct+1000 < 18446744073709551616) (r:n≠1) (P:Mod.Places a (fr++[q]) f) {i:Nat} (hi:i < 3) {s:ByteArray} (u:s.size<=20) (F:(a.fl i).base+(a.fl i).kept.length < 2147483647):
  (st.putRecord q i ((a.fl i).base+(a.fl i).kept.length+1) s.data.toList).1=0/\eR' op (ct+1) (n - 1) (st.putRecord q i ((a.fl i).base+(a.fl i).kept.length+1) s.data.toList).2 (a.submit i s) fr (fun t=>if t=i then f i++[q]else f t):=by
 have z:=mz' h (by omega);have hd:=h.dk.submit P hi u (by have:=h.ct;omega) (by omega);have h1:=h.dead;have h2:=h.arm;have h3:=h.ct;unfold Mod.Stv.putRecord Mod.Dk.put;rw[if_neg (by rw[h1];simp),if_neg (by rw[h2];exact r),z];exact⟨rfl,rfl,by show st.dk.armed - 1=n - 1;rw[h2],h.op,by show st.count+1<=ct+1;omega,hd⟩
theorem tO' {op ct:Nat} {st:Mod.Stv} {a:Mod.Ag} {free:List Nat} {f:Nat->List Nat} (h:eR' op ct 1 st a free f) (P:Mod.Places a free f) (k s q:Nat) (b:List UInt8):
  (st.putRecord k s q b).1=4/\uM' op (st.putRecord k s q b).2 a:=by
 have h1:=h.dead;have h2:=h.arm;unfold Mod.Stv.putRecord Mod.Dk.put;rw[if_neg (by rw[h1];simp),if_pos h2];exact⟨rfl,rfl,h.op,_,_,free,f,h.dk,P⟩
theorem tP' {op ct:Nat} {st:Mod.Stv} {a:Mod.Ag} {free:List Nat} {f:Nat->List Nat} (h:eR' op ct 1 st a free f) (P:Mod.Places a free f) (x y r:Nat):
  (st.putNumbers x y r).1=4/\uM' op (st.putNumbers x y r).2 a:=by
 have h1:=h.dead;have h2:=h.arm;unfold Mod.Stv.putNumbers Mod.Dk.put;rw[if_neg (by rw[h1];simp),if_pos h2];exact⟨rfl,rfl,h.op,_,_,free,f,h.dk,P⟩
theorem eR'.sound {op ct:Nat} {st:Mod.Stv} {a:Mod.Ag} {free:List Nat} {f:Nat->List Nat} (h:eR' op ct 0 st a free f):vu' st:=⟨h.dead,h.arm⟩
def vw' (op ct n:Nat) (w x:World) (p:Nat) (a:Mod.Ag) (c:Av):Prop:=
 ∃g free sh f st,az' w x p g a.ticks a.welcome a.fenced free sh st c/\eR' op ct n st a free f/\aO' a st.opening g free sh f
def fa' (op:Nat) (w x:World) (p:Nat) (a:Mod.Ag) (c:Av):Prop:=∃g free sh st,az' w x p g a.ticks a.welcome a.fenced free sh st c/\uM' op st a
section
variable {w x y:World} {p:Nat} {g:Nat->Nat} {tk:Nat} {wel fen:Bool} {free:List Nat} {sh:Nat->List (Nat×Value)} {st st2:Mod.Stv} {c:Av} {a:Mod.Ag} {op ct n:Nat} {pl:Nat->List Nat}
theorem hO' (u:aA' w p g a.ticks a.welcome a.fenced free sh st c) (hs:st.dk.dead=false) (I:aO' a st.opening g free sh pl) (i:Int) (s:ByteArray) (D:a.refuses i s.size≠0):
  Calls Tryz.prog 52 #[y' p, .int .i64 i, .string s] w fun z U=>z= .returned (.int .i64 (a.refuses i s.size))/\U=w:=by
 have c0:w.cell? ⟨p,0,none⟩=some (y' c.s):=by rw[m' u.ks.blk,u.ks.a0]
 have G:=ab' u.stt;rw[hs]at G;have H:=t' G;obtain⟨V,cap,J,_⟩:=u.ks.fr.shape;have X:w.cell? ⟨p,22,none⟩=some (.slice V free.length cap):=by rw[m' u.ks.blk,u.ks.af,J]
 have M:=I.sum;obtain⟨m,O⟩:∃m,m=free.length:=⟨_,rfl⟩;rw[<-O]at X M;have F:=t' (bc' i w);obtain⟨e,f⟩:∃e,e=a.refuses i s.size:=⟨_,rfl⟩;rw[<-f];have Y:(Wire.isStr i=false/\e=5)\/(Wire.isStr i=true/\20 < s.size/\e=6)\/(Wire.isStr i=true/\¬20 < s.size/\m=0/\e=7):=by
  unfold Mod.Ag.refuses at f D;by_cases h1:i < 0\/3<=i
  ·rw[if_pos h1]at f;refine .inl ⟨?_,f⟩;cases Z:Wire.isStr i
   ·rfl
   ·simp[Wire.isStr]at Z;omega
  ·rw[if_neg h1]at f D;have Q:Wire.isStr i=true:=by simp[Wire.isStr];omega
   by_cases h2:20 < s.size
   ·rw[if_pos h2]at f;exact .inr (.inl ⟨Q,h2,f⟩)
   ·rw[if_neg h2]at f D;by_cases h3:24<=a.room
    ·rw[if_pos h3]at f;exact .inr (.inr ⟨Q,h2,by omega,f⟩)
    ·rw[if_neg h3]at D;exact absurd rfl D
 clear u G J O D f I M;unfold y' at *;rcases Y with ⟨h1,rfl⟩|⟨h1,h2,rfl⟩|⟨h1,h2,rfl,rfl⟩
 ·rw[h1]at F;go_enter Tryz.func52,Tryz.ntmps52;go_wp2_with (first|(go_at_call 86;refine(i' H).mono ?_;rintro z y ⟨rfl,r⟩;obtain rfl:w=y:=r.symm)|(go_at_call 87;refine(i' F).mono ?_;rintro z y ⟨rfl,r⟩;obtain rfl:w=y:=r.symm));go_ret;exact⟨rfl,rfl⟩
 ·rw[h1]at F;have aa:(20:Int) < (s.size:Int):=by omega
  go_enter Tryz.func52,Tryz.ntmps52;go_wp2_with (first|(go_at_call 86;refine(i' H).mono ?_;rintro z y ⟨rfl,r⟩;obtain rfl:w=y:=r.symm)|(go_at_call 87;refine(i' F).mono ?_;rintro z y ⟨rfl,r⟩;obtain rfl:w=y:=r.symm));go_ret;exact⟨rfl,rfl⟩
 ·rw[h1]at F;have aa:¬ (20:Int) < (s.size:Int):=by omega
  go_enter Tryz.func52,Tryz.ntmps52;go_wp2_with (first|(go_at_call 86;refine(i' H).mono ?_;rintro z y ⟨rfl,r⟩;obtain rfl:w=y:=r.symm)|(go_at_call 87;refine(i' F).mono ?_;rintro z y ⟨rfl,r⟩;obtain rfl:w=y:=r.symm));go_ret;exact⟨rfl,rfl⟩
theorem hP' (f:aA' w p g a.ticks a.welcome a.fenced free sh st c) (hs:eR' op ct n st a free pl) (aS:ct+1000 < 18446744073709551616) (aT:n≠1) (G:aO' a st.opening g free sh pl) {i:Nat} (hi:i < 3) (s:ByteArray) (aA:s.size<=20) (bz:a.room < 24) (aB:(a.fl i).base+(a.fl i).kept.length < 2147483647):
  Calls Tryz.prog 52 #[y' p, .int .i64 i, .string s] w fun Y r=>Y= .returned (.int .i64 0)/\vw' op (ct+1) (n - 1) w r p (a.submit i s) c:=by
 have aU:free≠ []:=fun h=>by have:=G.sum;rw[h]at this;simp at this;omega
 obtain⟨fr,q,rfl⟩:∃fr q,free=fr++[q]:=by
  rcases List.eq_nil_or_concat free with h|⟨l,x,h⟩
  ·exact absurd h aU
  ·exact⟨l,x,by rw[h,List.concat_eq_append]⟩
 have bS:q < 24:=G.lt q (by simp);have bA:=tN' hs aS aT G.places hi aA aB;have aV:=hs.dead;clear aS aT hs;have c0:w.cell? ⟨p,0,none⟩=some (y' c.s):=by rw[m' f.ks.blk,f.ks.a0]
 have aC:=ab' f.stt;rw[aV]at aC;have aW:=t' aC;have Z:Wire.isStr (i:Int)=true:=by simp[Wire.isStr];omega
 have aD:=bc' (i:Int) w;rw[Z]at aD;have aX:=t' aD;obtain⟨bT,cap,H,_,_,aE⟩:=f.ks.fr.shape;have aY:(fr++[q]).length=fr.length+1:=by simp
 rw[aY]at H aE;obtain⟨aZ,ba,rfl,bb⟩:=aE (by omega);have bc:w.cell? ⟨p,22,none⟩=some (.slice (some ⟨aZ,ba,none⟩) (fr.length+1) cap):=by rw[m' f.ks.blk,f.ks.af,H]
 have bd:w.cell? ⟨aZ,ba+fr.length,none⟩=some (.int .i64 q):=by rw[bb fr.length (by omega)];simp[H']
 have bB:fr.length+1<=24:=by have:=G.sum;simp at this;omega
 obtain⟨m,u⟩:∃m,m=fr.length:=⟨_,rfl⟩;rw[<-u]at bc bd bB H;have bU:IntKind.i64.wrap (((m+1:Nat):Int) - 1)=(m:Int):=by rw[IntKind.wrap_i64];omega
 have bV:IntKind.i64.wrap ((m:Int)+1 - 1)=(m:Int):=by rw[IntKind.wrap_i64];omega
 have bW:IntKind.i64.wrap (m:Int)=(m:Int):=by rw[IntKind.wrap_i64];omega
 have bX:(0:Int)<=(m:Int):=by omega
 have bY:(m:Int) < ((m+1:Nat):Int):=by omega
 have bZ:(m:Int) < (m:Int)+1:=by omega
 have ca:(((m+1:Nat):Int) ==0)=false:=by simp;omega
 have cb:((m:Int)+1==0)=false:=by simp;omega
 obtain⟨ak,I⟩:∃ak,ak=(a.fl i).base+(a.fl i).kept.length:=⟨_,rfl⟩;have aF:=fun n=>cO' (f.below (below_drewN (Below.refl _ _) n)) G hi (G.bs i hi);rw[<-I]at aF aB;have be:=fun n=>t' (aF n);have bf:IntKind.i64.wrap ((ak:Int)+1)=((ak+1:Nat):Int):=by rw[IntKind.wrap_i64];omega
 obtain⟨F,J⟩:∃F,F=ak+1:=⟨_,rfl⟩;rw[<-J]at bf;obtain⟨h0,M⟩:=bA;rw[<-I,<-J]at h0 M;have bC:s.data.toList.length=s.size:=by simp
 have O:=gk' (st:=st) q i F s.data.toList (by omega) (by rw[f.len];omega);rw[f.len]at O;have aG:=fun y (aa:Below w.heap.size w y)=>de' y c.s c.dp st c.dlv c.duv (f.below aa).stt q i F s (by rw[f.len];omega) (by omega) (by omega) aA;have ab:(st.putRecord q i F s.data.toList).2.opening=st.opening:=rfl;obtain⟨st2,aH⟩:∃st2,st2=(st.putRecord q i F s.data.toList).2:=⟨_,rfl⟩;rw[<-aH]at M O ab;rw[h0,<-aH]at aG;have bg:=fun y aa=>t' (aG y aa);have cc:¬ (20:Int) < (s.size:Int):=by omega
 have cd:(0:Int)<=(i:Int):=by omega
 have ce:(i:Int) < 3:=by omega
 have aI:=t' (And.intro M (And.intro O (And.intro ab (And.intro u (And.intro I (And.intro J H))))));have au:=t' G;have bD:=t' f;have bE:=lt_of_block f.ks.blk;have bh:=fun y=>t' (ni' s y (by omega));clear f G aC aD Z aG M O ab u I J H aF h0 aH aE bb bC aY aU bz aB aA aV;unfold y' at *;go_enter Tryz.func52,Tryz.ntmps52;go_upto_region 9 with (first|(go_at_call 86;refine(i' aW).mono ?_;rintro Y y ⟨rfl,aJ⟩;obtain rfl:w=y:=aJ.symm)|(go_at_call 87;refine(i' aX).mono ?_;rintro Y y ⟨rfl,aJ⟩;obtain rfl:w=y:=aJ.symm));go_quiet (first|(go_at_call 88;exact Calls.quiet_of (i' (be _))));go_upto_region 10 with fail;refine C' (fun x=>Below w.heap.size w x) (below_drewN (Below.refl _ _) _) ?_;clear bd aW aX be bf;intro x av;have bF:=(av.cell (p:=⟨p,0,none⟩) bE).trans c0;have bi:=t' av;have bj:=t' (i' (bg x av));clear av c0 bc bg;go_upto_region 13 with (go_at_call 89;refine(i' bj).mono ?_;rintro Y y ⟨rfl,cf,k1,k2,k3⟩);obtain⟨M,O,ab,u,I,J,H⟩:=i' aI;have bk:=dp' ((i' bD).below (i' bi)) k1 k2 k3 O;have ax:=t' (bk.behind (i' bi));refine C' (fun r=>az' w r p g a.ticks a.welcome a.fenced (fr++[q]) sh st2 c) (i' ax) ?_;clear k1 k2 k3 bk ax bF bj M O ab u I J H;rintro r ⟨c1,Q,bl,bm,ac,ad⟩;obtain⟨cg,ah,ao,bG,_,bn⟩:=Q.ks.fr.shape;obtain⟨ai,aj,rfl,_⟩:=bn (by simp);have u:=(i' aI).2.2.2.1;have aK:(fr++[q]).length=m+1:=by simp[u]
 rw[aK]at ao bG;have ch:m<=ah:=by omega
 have aL:r.cell? ⟨p,22,none⟩=some (.slice (some ⟨ai,aj,none⟩) (m+1) ah):=by rw[m' Q.ks.blk,Q.ks.af,ao]
 have bo:r.frozen? ⟨p,22,none⟩=false:=D' (i:=22) Q.ks.blk;have aM:=lt_of_block Q.ks.blk;have aN:ao' r 3 1 (.slice (some ⟨ai,aj,none⟩) m ah) fr.length (H' fr):=by
  have h:=Q.ks.fr;rw[aK,ao]at h;have h2:=h.init;rw[<-u];have:(H' (fr++[q])).take m=H' fr:=by rw[u];simp[H']
  rw[this]at h2;exact h2
 have aO:=fun bp (aP:Below r.heap.size r bp)=>t' (ed' (bl.trans (A' (E:=fun _=>False) aP) (fun _ _ h=>h.elim)) bm ac ad (jj' (free2:=fr) (x:=bp) (v:= .slice (some ⟨ai,aj,none⟩) m ah) (Q.below aP) (Far.refl _ _) (by rw[u];rw[u]at aN;exact aN.far (A' (E:=fun _=>False) aP) (fun _ _ h=>h)) (.inr (.inl (by rw[ao];rfl)))));clear Q bl bm ac ad bn aN ao aK u;refine aj' (by kernel_rfl)
  [fun v _=>v= .pointer (some ⟨p,0,none⟩),fun v _=>v= .pointer (some ⟨p,0,none⟩),fun v _=>v= .pointer (some ⟨p,0,none⟩),fun v _=>v= .pointer (some ⟨p,22,none⟩),fun v _=>v= .slice (some ⟨ai,aj,none⟩) (m+1) ah,fun v _=>v= .pointer (some ⟨p,0,none⟩),fun v _=>v= .pointer (some ⟨p,0,none⟩),fun v _=>v= .pointer (some ⟨p,22,none⟩),fun v _=>v= .slice (some ⟨ai,aj,none⟩) (m+1) ah,
   fun v _=>v= .int .i64 ((m+1:Nat):Int),fun v _=>v= .int .i64 m,fun v _=>v= .slice (some ⟨ai,aj,none⟩) m ah,fun v _=>v= .pointer (some ⟨p,0,none⟩),fun v _=>v= .pointer (some ⟨p,22,none⟩),fun _ _=>True]
  [[(0,none)],[(0,none)],[(61,some 1)],[(62,some 2)],[(63,some 3)],[(0,none)],[(65,some 5)],[(66,some 6)],[(67,some 7)],[(68,some 8)],[(69,some 9)],[(64,some 4),(70,some 10)],[(60,some 0)],[(72,some 12)],[(73,some 13),(71,some 11)]] [some 60,some 61,some 62,some 63,some 64,some 65,some 66,some 67,some 68,some 69,some 70,some 71,some 72,some 73,none] [false,false,false,false,false,false,false,false,false,false,false,false,false,false,false,false,false,false,false,false,false,false,false,false,false,false,false,false,false,false,false,false,false,false,false,false,false,false,false,false,false,false,false,false,false,false,false,false,false,false,false,false,false,false,false,false,false,false,false,false,true,true,true,true,true,true,true,true,true,true,true,true,true,true,false,false,false,false,false,false,false,false,false,false,false,false]
  14 _ rfl rfl (by kernel_rfl) (by kernel_rfl) (by kernel_rfl) (by kernel_rfl) (by kernel_rfl) (by kernel_rfl) ?_ ?_ ?_
 ·repeat' (first|exact J' _|exact Z'|exact trivial|apply And.intro)
 ·refine⟨?_,?_,?_,?_,?_,?_,?_,?_,?_,?_,?_,?_,?_,?_,trivial⟩;all_goals
   intro a' y U ap;have bq:=(U.cell (p:=⟨p,22,none⟩) aM).trans aL;clear U aO;simp only[I',List.getD_cons_zero,List.getD_cons_succ,Array.getD_eq_getD_getElem?]at ap;try simp at ap
   go_simp;try exact⟨_,rfl,Below.refl _ _,rfl⟩
   try exact Below.refl _ _
   try exact⟨Below.refl _ _,by simp⟩
 ·intro z y V D;simp only[ae',List.take]at D;have bH:=D.2.2.2.2.2.2.2.2.2.2.2.1;have bI:=D.2.2.2.2.2.2.2.2.2.2.2.2.2.1;clear D;have br:=t' (i' (aO y V));have bq:=(V.cell (p:=⟨p,22,none⟩) aM).trans aL;have bJ:y.frozen? ⟨p,22,none⟩=false:=(V.frozen (p:=⟨p,22,none⟩) aM).trans bo;clear V aO aL bo;simp only[R',bH,bI];generalize z 60=ci;generalize z 61=cj;generalize z 62=ck;generalize z 63=cl;generalize z 64=cm;generalize z 65=cn;generalize z 66=co;generalize z 67=cp;generalize z 68=cq;generalize z 69=cr;generalize z 70=cs;generalize z 72=cu;go_simp;go_upto_region 14 with fail;refine C' (fun r=>az' w r p g a.ticks a.welcome a.fenced fr sh st2 c) (i' br) ?_;clear br bq bJ;rintro z3 ⟨c3,aq,ay,az,ac,ad⟩;have bK:=(i' au).small hi;have bt:(sh (i * 3)).length < 1000:=by rw[(i' au).kp i hi,do' _ _ _ ((i' au).pn i hi)];omega
  have aQ:=fun y (aa:Below z3.heap.size z3 y)=>oo' ((aq.below aa).shAt (i:=i * 3) (by omega)) bt F s q;simp only[bZ',show 4+i * 3 * 2=4+i * 6 by omega]at aQ;have aR:=fun y aa=>t' (aQ y aa);have bL:=t' (And.intro aq (And.intro ay (And.intro az (And.intro ac ad))));clear aq ay az ac ad aQ bK bt;refine aj' (by kernel_rfl)
   [fun v _=>v= .pointer (some ⟨p,0,none⟩),fun v _=>v= .int .i64 i,fun v _=>v= .pointer (some ⟨p,0,none⟩),fun v _=>v= .pointer (some ⟨p,4,none⟩),fun v _=>v= .pointer (some ⟨p,4+i * 6,none⟩),fun v _=>v= .pointer (some ⟨p,4+i * 6,none⟩),fun v _=>v= .int .i64 F,fun v _=>v= .string s,fun v _=>v= .string s,fun v _=>v= .int .i64 q,fun v _=>v= .agg #[.string s, .int .i64 q],fun _ _=>True]
   [[(0,none)],[(1,none)],[(74,some 0)],[(76,some 2)],[(77,some 3),(75,some 1)],[(78,some 4)],[(7,none)],[(2,none)],[(81,some 7)],[(8,none)],[(82,some 8),(83,some 9)],[(79,some 5),(80,some 6),(84,some 10)]] [some 74,some 75,some 76,some 77,some 78,some 79,some 80,some 81,some 82,some 83,some 84,some 85] [false,false,false,false,false,false,false,false,false,false,false,false,false,false,false,false,false,false,false,false,false,false,false,false,false,false,false,false,false,false,false,false,false,false,false,false,false,false,false,false,false,false,false,false,false,false,false,false,false,false,false,false,false,false,false,false,false,false,false,false,false,false,false,false,false,false,false,false,false,false,false,false,false,false,true,true,true,true,true,true,true,true,true,true,true,true]
   11 _ rfl rfl (by kernel_rfl) (by kernel_rfl) (by kernel_rfl) (by kernel_rfl) (by kernel_rfl) (by kernel_rfl) ?_ ?_ ?_
  ·repeat' (first|exact J' _|exact Z'|exact trivial|apply And.intro)
  ·refine⟨?_,?_,?_,?_,?_,?_,?_,?_,?_,?_,?_,trivial⟩;all_goals
    intro a' y U ap;clear U aR;simp only[I',List.getD_cons_zero,List.getD_cons_succ,Array.getD_eq_getD_getElem?]at ap;try simp at ap
    go_simp;try exact⟨_,rfl,Below.refl _ _,rfl⟩
    try exact Below.refl _ _
    try exact⟨Below.refl _ _,by simp⟩
   all_goals first
    |(refine(i' (bh _)).mono ?_;rintro Y r ⟨rfl,U⟩;exact⟨rfl,U⟩)
    |(refine(i' (bh _)).mono ?_;rintro Y r ⟨rfl,U⟩;exact⟨_,rfl,U,rfl⟩)
    |skip
  ·intro X y V D;simp only[ae',List.take]at D;have bM:=D.2.2.2.2.2.1;have bN:=D.2.2.2.2.2.2.1;have bO:=D.2.2.2.2.2.2.2.2.2.2.1;clear D;have bP:=t' (i' (aR y V));have bu:=t' V;clear V aR;simp only[R',bM,bN,bO];generalize X 74=cv;generalize X 75=cw;generalize X 76=cx;generalize X 77=cy;generalize X 78=cz;generalize X 81=cA;generalize X 82=cB;generalize X 83=cC;go_simp;refine(i' bP).mono ?_;rintro Y bQ ⟨rfl,Z⟩;have ax:=t' Z;clear Z;go_wp2;go_ret;refine⟨rfl,?_⟩;obtain⟨M,O,ab,u,I,J,H⟩:=i' aI;obtain⟨aq,ay,az,ac,ad⟩:=i' bL;have Z:=i' ax;have bR:bY' y bQ p (4+i * 3 * 2) 151 c3.arr (c3.nv (i * 3)) (c3.mv (i * 3)) (aV' (sh (i * 3)) F (bZ' s q)):=by rw[show 4+i * 3 * 2=4+i * 6 by omega];exact Z
   have h1:=ed' ay az ac ad ((cz' (aq.below (i' bu)) (by omega) bR).behind (i' bu));have bw:=oI' (i' au) hi s;rw[<-I,<-J,<-ab]at bw;exact⟨g,fr,_,_,st2,h1,M,bw⟩
theorem ny' (f:aA' w p g a.ticks a.welcome a.fenced free sh st c) (hs:eR' op ct 1 st a free pl) (u:aO' a st.opening g free sh pl) {i:Nat} (hi:i < 3) (s:ByteArray) (ad:s.size<=20) (aE:a.room < 24) (ah:(a.fl i).base+(a.fl i).kept.length < 2147483647):
  Calls Tryz.prog 52 #[y' p, .int .i64 i, .string s] w fun H aF=>H= .returned (.int .i64 4)/\fa' op w aF p a c:=by
 have ai:free≠ []:=fun h=>by have:=u.sum;rw[h]at this;simp at this;omega
 obtain⟨fr,q,rfl⟩:∃fr q,free=fr++[q]:=by
  rcases List.eq_nil_or_concat free with h|⟨l,x,h⟩
  ·exact absurd h ai
  ·exact⟨l,x,by rw[h,List.concat_eq_append]⟩
 have aO:q < 24:=u.lt q (by simp);have aG:=fun r=>tO' hs u.places q i r s.data.toList;have aj:=hs.dead;clear hs;have c0:w.cell? ⟨p,0,none⟩=some (y' c.s):=by rw[m' f.ks.blk,f.ks.a0]
 have U:=ab' f.stt;rw[aj]at U;have ak:=t' U;have ao:Wire.isStr (i:Int)=true:=by simp[Wire.isStr];omega
 have V:=bc' (i:Int) w;rw[ao]at V;have ap:=t' V;obtain⟨aP,cap,z,_,_,X⟩:=f.ks.fr.shape;have aq:(fr++[q]).length=fr.length+1:=by simp
 rw[aq]at z X;obtain⟨au,av,rfl,ax⟩:=X (by omega);have ay:w.cell? ⟨p,22,none⟩=some (.slice (some ⟨au,av,none⟩) (fr.length+1) cap):=by rw[m' f.ks.blk,f.ks.af,z]
 have az:w.cell? ⟨au,av+fr.length,none⟩=some (.int .i64 q):=by rw[ax fr.length (by omega)];simp[H']
 have aH:fr.length+1<=24:=by have:=u.sum;simp at this;omega
 obtain⟨m,I⟩:∃m,m=fr.length:=⟨_,rfl⟩;rw[<-I]at ay az aH z;have aQ:IntKind.i64.wrap (((m+1:Nat):Int) - 1)=(m:Int):=by rw[IntKind.wrap_i64];omega
 have aR:IntKind.i64.wrap ((m:Int)+1 - 1)=(m:Int):=by rw[IntKind.wrap_i64];omega
 have aS:IntKind.i64.wrap (m:Int)=(m:Int):=by rw[IntKind.wrap_i64];omega
 have aT:(0:Int)<=(m:Int):=by omega
 have aU:(m:Int) < ((m+1:Nat):Int):=by omega
 have aV:(m:Int) < (m:Int)+1:=by omega
 have aW:(((m+1:Nat):Int) ==0)=false:=by simp;omega
 have aX:((m:Int)+1==0)=false:=by simp;omega
 obtain⟨F,J⟩:∃F,F=(a.fl i).base+(a.fl i).kept.length:=⟨_,rfl⟩;have Y:=fun n=>cO' (f.below (below_drewN (Below.refl _ _) n)) u hi (u.bs i hi);rw[<-J]at Y ah;have aA:=fun n=>t' (Y n);have aB:IntKind.i64.wrap ((F:Int)+1)=((F+1:Nat):Int):=by rw[IntKind.wrap_i64];omega
 obtain⟨r,M⟩:∃r,r=F+1:=⟨_,rfl⟩;rw[<-M]at aB;obtain⟨h0,G⟩:=aG r;have aI:s.data.toList.length=s.size:=by simp
 have D:=gk' (st:=st) q i r s.data.toList (by omega) (by rw[f.len];omega);rw[f.len]at D;have Z:=fun y (aa:Below w.heap.size w y)=>de' y c.s c.dp st c.dlv c.duv (f.below aa).stt q i r s (by rw[f.len];omega) (by omega) (by omega) ad;have O:(st.putRecord q i r s.data.toList).2.opening=st.opening:=rfl;obtain⟨st2,ab⟩:∃st2,st2=(st.putRecord q i r s.data.toList).2:=⟨_,rfl⟩;rw[<-ab]at G D O;rw[h0,<-ab]at Z;have aC:=fun y aa=>t' (Z y aa);have aY:¬ (20:Int) < (s.size:Int):=by omega
 have aZ:(0:Int)<=(i:Int):=by omega
 have ba:(i:Int) < 3:=by omega
 have aJ:=t' (And.intro G (And.intro D (And.intro O (And.intro I (And.intro J (And.intro M z))))));have bb:=t' u;have aK:=t' f;have aL:=lt_of_block f.ks.blk;clear f u U V ao Z G D O I J M z Y h0 ab X ax aI aq ai aE ah ad aj;unfold y' at *;go_enter Tryz.func52,Tryz.ntmps52;go_upto_region 9 with (first|(go_at_call 86;refine(i' ak).mono ?_;rintro H y ⟨rfl,ac⟩;obtain rfl:w=y:=ac.symm)|(go_at_call 87;refine(i' ap).mono ?_;rintro H y ⟨rfl,ac⟩;obtain rfl:w=y:=ac.symm));go_quiet (first|(go_at_call 88;exact Calls.quiet_of (i' (aA _))));go_upto_region 10 with fail;refine C' (fun x=>Below w.heap.size w x) (below_drewN (Below.refl _ _) _) ?_;clear az ak ap aA aB;intro x Q;have bc:=(Q.cell (p:=⟨p,0,none⟩) aL).trans c0;have aD:=t' Q;have aM:=t' (i' (aC x Q));clear Q c0 ay aC;go_wp2_with (go_at_call 89;refine(i' aM).mono ?_;rintro H y ⟨rfl,bd,k1,k2,k3⟩;replace k1:=t' k1;replace k2:=t' k2;replace k3:=t' k3);obtain⟨G,D,O,I,J,M,z⟩:=i' aJ;have aN:=dp' ((i' aK).below (i' aD)) (i' k1) (i' k2) (i' k3) D;go_ret;exact⟨rfl,_,_,_,st2,aN.behind (i' aD),G⟩
end
def plD (f:Nat->List Nat) (n:Nat->Nat) (j:Nat):Nat->List Nat:=fun t=>if t < j then(f t).drop (n t)else f t
def frD (free:List Nat) (f:Nat->List Nat) (n:Nat->Nat):Nat->List Nat
 |0=>free
 |j+1=>frD free f n j++(f j).take (n j)
theorem tQ' (f:Nat->List Nat) (n:Nat->Nat):plD f n 0=f:=by funext t;unfold plD;rw[if_neg (by omega)]
theorem pi' (f:Nat->List Nat) (n:Nat->Nat) (j:Nat):plD f n j j=f j:=by unfold plD;rw[if_neg (by omega)]
theorem tR' (free:List Nat) (f:Nat->List Nat) (n:Nat->Nat) (j:Nat):frD free f n (j+1)=frD free f n j++(plD f n j j).take (n j):=by rw[pi'];rfl
theorem tS' (f:Nat->List Nat) (n:Nat->Nat) (j:Nat):plD f n (j+1)=fun t=>if t=j then(plD f n j j).drop (n j)else plD f n j t:=by
 funext t;rw[pi'];unfold plD;by_cases h:t=j
 ·subst h;rw[if_pos (by omega),if_pos rfl]
 ·rw[if_neg h];by_cases h2:t < j
  ·rw[if_pos (by omega),if_pos h2]
  ·rw[if_neg (by omega),if_neg h2]
theorem rJ' {free:List Nat} {f:Nat->List Nat} {n:Nat->Nat} {x:Nat}:∀j,x∈frD free f n j->x∈free\/∃i,i < j/\x∈ (f i).take (n i)
 |0,h=> .inl h
 |j+1,h=>by
  unfold frD at h;rw[List.mem_append]at h;rcases h with h|h
  ·exact(rJ' j h).imp id (fun⟨i,hi,r⟩=>⟨i,by omega,r⟩)
  ·exact .inr ⟨j,by omega,h⟩
theorem eR'.same {op ct n:Nat} {st:Mod.Stv} {a a':Mod.Ag} {free:List Nat} {f:Nat->List Nat} (h:eR' op ct n st a free f) (r:∀i,i < 3->(a'.fl i).base=(a.fl i).base/\(a'.fl i).kept.map (·.1)=(a.fl i).kept.map (·.1)):eR' op ct n st a' free f:=⟨h.dead,h.arm,h.op,h.ct,h.dk.same r⟩
def fH' (a:Mod.Ag):Nat:=((a.fl 0).base+(a.fl 0).base+(a.fl 0).kept.length)+((a.fl 1).base+(a.fl 1).base+(a.fl 1).kept.length)+((a.fl 2).base+(a.fl 2).base+(a.fl 2).kept.length)
theorem sG' {a a':Mod.Ag} (f:∀i,i < 3->(a'.fl i).base=(a.fl i).base/\(a'.fl i).kept.map (·.1)=(a.fl i).kept.map (·.1)):fH' a'=fH' a:=by
 have hl:∀i,i < 3->(a'.fl i).kept.length=(a.fl i).kept.length:=fun i hi=>by have:=congrArg List.length (f i hi).2;simpa using this
 unfold fH';rw[(f 0 (by omega)).1,(f 1 (by omega)).1,(f 2 (by omega)).1,hl 0 (by omega),hl 1 (by omega),hl 2 (by omega)]
theorem rK' {a:Mod.Ag} (f:∀i,i < 3->(a.fl i).base+(a.fl i).kept.length<=2147483647):fH' a<=12884901882:=by
 have h0:=f 0 (by omega);have h1:=f 1 (by omega);have h2:=f 2 (by omega);unfold fH';omega
theorem kL' {a:Mod.Ag} {op:Nat} {g:Nat->Nat} {free:List Nat} {sh:Nat->List (Nat×Value)} {z:Nat->List Nat} (r:aO' a op g free sh z) {n f:Nat->Nat} (u:∀i,i < 3->f i=(a.fl i).base+n i) (D:¬ (f 0=g 0/\f 1=g 1/\f 2=g 2)):0 < n 0+n 1+n 2:=by
 have F:=r.bs 0 (by omega);have G:=r.bs 1 (by omega);have H:=r.bs 2 (by omega);have I:=u 0 (by omega);have J:=u 1 (by omega);have M:=u 2 (by omega);omega
section
variable {w x:World} {p:Nat} {g:Nat->Nat} {tk:Nat} {wel fen:Bool} {free:List Nat} {sh:Nat->List (Nat×Value)} {st:Mod.Stv} {c:Av} {a:Mod.Ag} {pl:Nat->List Nat} {op:Nat}
end
end Go.Proofs.YtamafdcnbcoegaaGreat
