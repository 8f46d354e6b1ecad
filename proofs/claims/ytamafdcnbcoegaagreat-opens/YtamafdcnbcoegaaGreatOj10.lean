/- Part 10. -/
import Derived.Test.YtamafdcnbcoegaaGreatOj9
set_option maxRecDepth 100000
set_option maxHeartbeats 40000000
namespace Go.Proofs.YtamafdcnbcoegaaGreat
attribute [local simp, local go_sem] Ev Ep Ei Eb Et
abbrev yp':= @List.Perm.append_left
abbrev wZ':= @Nat.lt_succ_of_lt
abbrev yq':= @List.mem_map_of_mem
abbrev zR':= @List.filter_cons_of_pos
abbrev zS':= @List.filter_cons_of_neg
abbrev zT':= @List.range_succ_eq_map
abbrev yr':= @List.perm_middle
abbrev zU':= @List.filter_congr
namespace Mq
def sec (L:List UInt8) (k:Nat):List UInt8:=(L.drop (k * 64)).take 64
variable{m:List UInt8}{w:Nat}
theorem We (h:w * 64+64<=m.length):(sec m w).length=64:=by
 simp[sec];omega
variable{aU:List UInt8}
theorem sec_set (hs:aU.length=64) (hk:64 * w+64<=m.length):sec (Xa m w aU) w=aU:=by
 unfold sec Xa;have h1:(m.take (64 * w)).length=w * 64:=by simp;omega
 rw[z38,zk' (by omega),List.drop_of_length_le (by omega),z80,z82 (by omega),z46 (by omega)]
variable{a:Nat}
theorem Zd (hs:aU.length=64) (hk:64 * w+64<=m.length) (h:a≠w):sec (Xa m w aU) a=sec m a:=by
 unfold sec;apply z94;intro i;rw[z69,z69];split
 ·rename_i hi;rw[z83,z83];unfold Xa;rw[z38];by_cases z:a < w
  ·rw[z45 (by simp;omega),z69,if_pos (by omega)]
  ·have hl:(m.take (64 * w)).length=64 * w:=(by simp;omega);rw[z29 (by omega),hl,z29 (by omega),hs,z83];congr 1;omega
 ·rfl
def Xz:List UInt8:=List.replicate 64 0
def Xw (S:List UInt8):Nat:=(Qb.Qg S 0).toNat
def Vc (S:List UInt8):Nat:=(Qb.Qg S 4).toNat+(Qb.Qg S 8).toNat * 4294967296
theorem opOf_lt (S:List UInt8):Xw S < 4294967296:=by have:=Qb.Jk S 0;unfold Xw;omega
theorem ctOf_lt (S:List UInt8):Vc S < 18446744073709551616:=by have:=Qb.Jk S 4;have:=Qb.Jk S 8;unfold Vc;omega
structure Hd where
 o:Nat
 c:Nat
 a:Nat
 b:Nat
 d:Nat
def hd0:Hd:=⟨0,0,0,0,0⟩
def Yw (S:List UInt8):Hd:=⟨Xw S,Vc S,(Qb.Qg S 12).toNat,(Qb.Qg S 16).toNat,(Qb.Qg S 20).toNat⟩
def Zf (h:Hd):List UInt8:=Xc h.o h.c (Jq h.a h.b h.d)
def Hd.small (h:Hd):Bool:=decide (h.a<=2147483647) && (decide (h.b<=2147483647) &&decide (h.d<=2147483647))
def Qo (o:Nat):Bool:=decide (1<=o) &&decide (o<=1073741824)
def Jz (S:List UInt8):Bool:=decide (S=Xz) || ((Yw S).small&& (Qo (Xw S) &&decide (Zf (Yw S)=S)))
def Qm (S:List UInt8):Hd:=if S=Xz then hd0 else Yw S
theorem Yu {n:Nat} (h:n < 4294967296) (p q:List UInt8):Qb.Qg (p++(Qb.le4 (n:Int)++q)) p.length=n:=by
 unfold Qb.Qg Qb.le4;have e:=Qb.num4_le4 (n:=(n:Int)) (by omega) (by omega);conv=>rhs;rw[<-e]
 congr 1 <;> simp[List.getD_eq_getElem?_getD]
theorem stamp_split (o c:Nat) (r:List UInt8):Jd o c++r=Qb.le4 (o:Int)++(Qb.le4 ((c % 4294967296:Nat):Int)++(Qb.le4 ((c / 4294967296:Nat):Int)++r)):=by
 unfold Jd;simp
theorem Ya {o c:Nat} {ins:List UInt8} (z:o < 4294967296):Xw (Xc o c ins)=o:=by
 unfold Xw Xc;rw[z38,stamp_split];have:=Yu z [] (Qb.le4 ((c % 4294967296:Nat):Int)++(Qb.le4 ((c / 4294967296:Nat):Int)++((ins++List.replicate (40 - ins.length) 0)++Jd o c)));simp only[List.nil_append,List.length_nil]at this;rw[this];omega
theorem ctOf_seal (z:a < 18446744073709551616):Vc (Xc w a m)=a:=by
 unfold Vc Xc;rw[z38,stamp_split];have h1:=Yu (n:=a % 4294967296) (by omega) (Qb.le4 (w:Int)) (Qb.le4 ((a / 4294967296:Nat):Int)++((m++List.replicate (40 - m.length) 0)++Jd w a));have h2:=Yu (n:=a / 4294967296) (by omega) (Qb.le4 (w:Int)++Qb.le4 ((a % 4294967296:Nat):Int)) ((m++List.replicate (40 - m.length) 0)++Jd w a);rw[Qb.Qw]at h1;rw[z35,Qb.Qw,Qb.Qw,z38]at h2;rw[h1,h2];omega
theorem Yt {o c n:Nat} {p q:List UInt8} (hn:n < 4294967296):Qb.Qg (Xc o c (p++(Qb.le4 (n:Int)++q))) (12+p.length)=n:=by
 unfold Xc;have h:=Yu hn (Jd o c++p) (q++(List.replicate (40 - (p++(Qb.le4 (n:Int)++q)).length) 0++Jd o c));have e:(Jd o c++p).length=12+p.length:=by rw[z35,Qq]
 rw[e]at h;conv=>rhs;rw[<-h]
 congr 1
 simp
theorem hdOf_seal {h:Hd} (z:h.o < 4294967296) (F:h.c < 18446744073709551616) (G:h.a < 4294967296) (hb:h.b < 4294967296) (hd:h.d < 4294967296):Yw (Zf h)=h:=by
 unfold Yw Zf;have H:Jq h.a h.b h.d=[]++(Qb.le4 (h.a:Int)++(Qb.le4 (h.b:Int)++Qb.le4 (h.d:Int))):=by unfold Jq;simp
 have I:Jq h.a h.b h.d=Qb.le4 (h.a:Int)++(Qb.le4 (h.b:Int)++Qb.le4 (h.d:Int)):=by unfold Jq;simp
 have J:Jq h.a h.b h.d=(Qb.le4 (h.a:Int)++Qb.le4 (h.b:Int))++(Qb.le4 (h.d:Int)++[]):=by unfold Jq;simp
 have f1:=Yt (o:=h.o) (c:=h.c) (p:=[]) (q:=Qb.le4 (h.b:Int)++Qb.le4 (h.d:Int)) G;have f2:=Yt (o:=h.o) (c:=h.c) (p:=Qb.le4 (h.a:Int)) (q:=Qb.le4 (h.d:Int)) hb;have f3:=Yt (o:=h.o) (c:=h.c) (p:=Qb.le4 (h.a:Int)++Qb.le4 (h.b:Int)) (q:=[]) hd;rw[<-H]at f1;rw[<-I,Qb.Qw]at f2;rw[<-J,z35,Qb.Qw,Qb.Qw]at f3;simp only[List.length_nil]at f1;rw[Ya z,ctOf_seal F,f1,f2,f3];simp
theorem Zb (h:Hd):(Zf h).length=64:=Jw _ _ (by rw[Jo];omega)
theorem opOf_nought:Xw Xz=0:=by decide
variable{aJ:Hd}
theorem sealH_ne (F:1<=aJ.o) (z:aJ.o < 4294967296):Zf aJ≠Xz:=by
 intro e;have:=Ya (c:=aJ.c) (ins:=Jq aJ.a aJ.b aJ.d) z;unfold Zf at e;rw[e,opOf_nought]at this;omega
theorem headOk_seal {h:Hd} (hs:Qo h.o=true) (z:h.c < 18446744073709551616) (hn:h.small=true):Jz (Zf h)=true/\Qm (Zf h)=h:=by
 have F:1<=h.o/\h.o<=1073741824:=by simpa[Qo]using hs
 have hb:h.a<=2147483647/\h.b<=2147483647/\h.d<=2147483647:=by simpa[Hd.small]using hn
 have e:=hdOf_seal (h:=h) (by omega) z (by omega) (by omega) (by omega);have G:=Ya (c:=h.c) (ins:=Jq h.a h.b h.d) (o:=h.o) (by omega);refine⟨?_,?_⟩
 ·unfold Jz;rw[e,hn];rw[show Xw (Zf h)=h.o from G,hs];simp
 ·unfold Qm;rw[if_neg (sealH_ne F.1 (by omega)),e]
theorem Zj:Jz Xz=true/\Qm Xz=hd0:=by simp[Jz,Qm]
theorem Ve (h:Jz m=true):(m=Xz/\Qm m=hd0)\/(Qo (Qm m).o=true/\(Qm m).c < 18446744073709551616/\(Qm m).small=true/\m=Zf (Qm m)):=by
 unfold Jz at h;by_cases e:m=Xz
 ·exact .inl ⟨e,by unfold Qm;rw[if_pos e]⟩
 ·right;have z:(Yw m).small=true/\Qo (Xw m)=true/\Zf (Yw m)=m:=by simpa[e]using h
  unfold Qm;rw[if_neg e];exact⟨z.2.1,ctOf_lt m,z.1,z.2.2.symm⟩
def Vp (h g:Hd):Bool:=if h.o≠g.o then decide (g.o < h.o)else decide (g.c < h.c)
def Xj (L:List UInt8):Option (Hd×Nat):=
 if Jz (sec L 0)=true/\Jz (sec L 1)=true then
  if Vp (Qm (sec L 1)) (Qm (sec L 0))=true then some (Qm (sec L 1),1)
  else if Vp (Qm (sec L 0)) (Qm (sec L 1))=true then some (Qm (sec L 0),0)
  else if(Qm (sec L 0)).o=0/\(Qm (sec L 1)).o=0 then some (hd0,0)else none
 else none
structure Rc where
 s:Nat
 q:Nat
 b:z10
def rc0:Rc:=⟨0,0,⟨#[]⟩⟩
def lenOf (S:List UInt8):Nat:=(S.getD 13 0).toNat
def Yb (S:List UInt8):Rc:=⟨(S.getD 12 0).toNat,(Qb.Qg S 14).toNat,⟨((S.drop 18).take (lenOf S)).toArray⟩⟩
def Xl (o c:Nat) (r:Rc):List UInt8:=Xc o c (Za r.s r.q r.b.data.toList)
def Xu (S:List UInt8) (last:Nat):Bool:=
 decide (S=Xz) || ((decide (lenOf S<=20) && (decide ((Yb S).s < 3) && (decide (1<=(Yb S).q) &&decide ((Yb S).q<=2147483647)))) && (Qo (Xw S) && (decide (Xw S<=last) &&decide (Xl (Xw S) (Vc S) (Yb S)=S))))
def Zr (S:List UInt8):Rc:=if S=Xz then rc0 else Yb S
def Rc.fits (r:Rc):Prop:=r.s < 3/\1<=r.q/\r.q<=2147483647/\r.b.size<=20
theorem len_b (b:z10):b.data.toList.length=b.size:=zj'
variable{U:Rc}
theorem rcOf_seal {o c:Nat} (F:U.fits):Yb (Xl o c U)=U/\lenOf (Xl o c U)=U.b.size:=by
 obtain⟨h1,h2,h3,h4⟩:=F;have hl:=len_b U.b;have z:lenOf (Xl o c U)=U.b.size:=by unfold lenOf Xl Xc Za;rw[z38,z17,z29 (by rw[Qq];omega),Qq];simp;omega
 refine⟨?_,z⟩;have G:((Xl o c U).getD 12 0).toNat=U.s:=by unfold Xl Xc Za;rw[z38,z17,z29 (by rw[Qq];omega),Qq];simp;omega
 have H:(Qb.Qg (Xl o c U) 14).toNat=U.q:=by have:=Yt (o:=o) (c:=c) (p:=[UInt8.ofNat (U.s % 256),UInt8.ofNat (U.b.data.toList.length % 256)]) (q:=U.b.data.toList) (n:=U.q) (by omega);rw[<-z38]at this;unfold Xl Za;rw[show(14:Nat)=12+ [UInt8.ofNat (U.s % 256),UInt8.ofNat (U.b.data.toList.length % 256)].length from rfl,this];rfl
 have I:((Xl o c U).drop 18).take U.b.size=U.b.data.toList:=by
  have hd:(Xl o c U).drop 18=U.b.data.toList++(List.replicate (40 - (Za U.s U.q U.b.data.toList).length) 0++Jd o c):=by
   unfold Xl Xc;have:Jd o c++(Za U.s U.q U.b.data.toList++List.replicate (40 - (Za U.s U.q U.b.data.toList).length) 0)++Jd o c
     =(Jd o c++([UInt8.ofNat (U.s % 256),UInt8.ofNat (U.b.data.toList.length % 256)]++Qb.le4 (U.q:Int)))++(U.b.data.toList++(List.replicate (40 - (Za U.s U.q U.b.data.toList).length) 0++Jd o c)):=by
    conv=>lhs;arg 1;arg 2;arg 1;unfold Za
    simp
   rw[this];exact List.drop_left' (by simp[Qq,Qb.Qw])
  rw[hd,z82 (by omega),z46 (by omega)]
 unfold Yb;rw[G,z,H,I]
theorem Ye (z:U.b.size<=20):(Xl w a U).length=64:=
 Jw _ _ (by rw[Zv,len_b];omega)
theorem sealR_ne {c:Nat} (F:1<=w) (z:w < 4294967296):Xl w c U≠Xz:=by
 intro e;have:=Ya (c:=c) (ins:=Za U.s U.q U.b.data.toList) z;unfold Xl at e;rw[e,opOf_nought]at this;omega
def Yl (S:List UInt8) (last:Nat) (r:Rc):Prop:=(S=Xz/\r=rc0)\/∃o c,1<=o/\o<=last/\o < 4294967296/\c < 18446744073709551616/\r.fits/\S=Xl o c r
theorem Yl.up {n:Nat} (h:Yl m n U) (z:n<=w):Yl m w U:=by
 rcases h with h|⟨o,c,h1,h2,h3⟩
 ·exact .inl h
 ·exact .inr ⟨o,c,h1,by omega,h3⟩
theorem recOk_at (h:Yl m w U) (hl:w<=1073741824):Xu m w=true/\Zr m=U:=by
 rcases h with ⟨rfl,rfl⟩|⟨o,c,h1,h2,h3,h4,z,rfl⟩
 ·simp[Xu,Zr]
 ·obtain⟨F,G⟩:=rcOf_seal (o:=o) (c:=c) z;have H:Xw (Xl o c U)=o:=Ya h3;have I:Vc (Xl o c U)=c:=ctOf_seal h4;obtain⟨g1,g2,J,M⟩:=z;refine⟨?_,?_⟩
  ·unfold Xu;rw[F,G,H,I];simp[Qo];right;omega
  ·unfold Zr;rw[if_neg (sealR_ne h1 h3),F]
theorem recAt_ok (h:Xu m w=true):Yl m w (Zr m):=by
 unfold Xu at h;by_cases e:m=Xz
 ·exact .inl ⟨e,by unfold Zr;rw[if_pos e]⟩
 ·right;have z:(lenOf m<=20/\(Yb m).s < 3/\1<=(Yb m).q/\(Yb m).q<=2147483647)/\Qo (Xw m)=true/\Xw m<=w/\Xl (Xw m) (Vc m) (Yb m)=m:=by have:=h;simp[e]at this;omega
  obtain⟨⟨g1,g2,F,G⟩,H,I,J⟩:=z;have M:1<=Xw m/\Xw m<=1073741824:=by simpa[Qo]using H
  unfold Zr;rw[if_neg e];refine⟨Xw m,Vc m,M.1,I,by omega,ctOf_lt m,⟨g2,F,G,?_⟩,J.symm⟩;show(Yb m).b.size<=20;simp[Yb,ByteArray.size];omega
theorem recOk_small {S:List UInt8} {last:Nat} (h:Xu S last=true):(Zr S).s < 3/\(Zr S).q<=2147483647/\(Zr S).b.size<=20:=by
 rcases recAt_ok h with ⟨_,e⟩|⟨o,c,_,_,_,_,⟨h1,h2,h3,h4⟩,_⟩
 ·rw[e];simp[rc0,ByteArray.size]
 ·exact⟨h1,h3,h4⟩
def recsFrom (L:List UInt8) (last:Nat):Nat->Nat->Option (List Rc)
 | _,0=>some []
 |x,n+1=>if Xu (sec L (2+x)) last=true then(recsFrom L last (x+1) n).map (Zr (sec L (2+x)):: ·)else none
end Mq
namespace Mq
def Older (S:List UInt8) (op c:Nat):Prop:=S=Xz\/∃h:Hd,1<=h.o/\h.o<=op/\h.c < 18446744073709551616/\h.small=true/\(h.o < op\/h.c < c)/\S=Zf h
structure Zy (L:List UInt8) (op ct hd:Nat) (g:Nat->Nat) (m:Nat):Prop where
 len:L.length=m * 64
 two:2<=m
 hd1:hd<=1
 op1:1<=op
 opm:op < 4294967296
 ctm:ct < 18446744073709551616
 sm:∀i,i < 3->g i<=2147483647
 hs:∃c,c<=ct/\sec L hd=Zf ⟨op,c,g 0,g 1,g 2⟩/\Older (sec L (1 - hd)) op c
theorem newer2_of {h g:Hd} (z:g.o < h.o\/g.o=h.o/\g.c < h.c):Vp h g=true/\Vp g h=false:=by
 unfold Vp;rcases z with z|⟨z,F⟩
 ·rw[if_pos (by omega),if_pos (by omega)];simp;omega
 ·rw[if_neg (by omega),if_neg (by omega)];simp;omega
variable{m:List UInt8}{w a:Nat}
theorem Older.head (h:Older m w a) (F:w<=1073741824) (z:1<=w):Jz m=true/\((Qm m).o < w\/(Qm m).o=w/\(Qm m).c < a):=by
 rcases h with rfl|⟨h,h1,h2,h3,h4,h5,rfl⟩
 ·exact⟨Zj.1, .inl (by rw[Zj.2];exact z)⟩
 ·have:=headOk_seal (h:=h) (by simp[Qo];omega) h3 h4;refine⟨this.1,?_⟩;rw[this.2];omega
variable{q r C:Nat}
theorem small_of (z:w<=2147483647) (hb:a<=2147483647) (hd:q<=2147483647):Hd.small ⟨r,C,w,a,q⟩=true:=by simp[Hd.small];omega
variable{Q:Nat -> Nat}
theorem Zy.Xj {L:List UInt8} (h:Zy L w a q Q r) (G:w<=1073741824):∃c,Xj L=some (⟨w,c,Q 0,Q 1,Q 2⟩,q):=by
 obtain⟨c,h1,h2,h3⟩:=h.hs;have s:=headOk_seal (h:=⟨w,c,Q 0,Q 1,Q 2⟩) (by have:=h.op1;simp[Qo];omega) (by have:=h.ctm;show c < _;omega) (small_of (h.sm 0 (by omega)) (h.sm 1 (by omega)) (h.sm 2 (by omega)));obtain⟨z,F⟩:=h3.head G h.op1;refine⟨c,?_⟩;have H:=h.hd1;obtain rfl|rfl:q=0\/q=1:=by omega
 ·have hn:=newer2_of (h:=⟨w,c,Q 0,Q 1,Q 2⟩) (g:=Qm (sec L 1)) F;unfold Mq.Xj;rw[h2,s.1,s.2,show sec L 1=sec L (1 - 0) from rfl,z];rw[if_pos ⟨rfl,rfl⟩,show Qm (sec L (1 - 0))=Qm (sec L 1) from rfl,hn.2,if_neg (by simp),hn.1,if_pos rfl]
 ·have hn:=newer2_of (h:=⟨w,c,Q 0,Q 1,Q 2⟩) (g:=Qm (sec L 0)) F;unfold Mq.Xj;rw[h2,s.1,s.2,show sec L 0=sec L (1 - 1) from rfl,z];rw[if_pos ⟨rfl,rfl⟩,show Qm (sec L (1 - 1))=Qm (sec L 0) from rfl,hn.1,if_pos rfl]
theorem Zy.numbers {g':Nat->Nat} (h:Zy m w a q Q r) (F:∀i,i < 3->g' i<=2147483647) (G:a+1 < 18446744073709551616):
  Zy (Xa m (1 - q) (Zf ⟨w,a+1,g' 0,g' 1,g' 2⟩)) w (a+1) (1 - q) g' r:=by
 obtain⟨c,h1,h2,h3⟩:=h.hs;have hl:=h.len;have H:=h.two;have I:=h.hd1;have z:=Zb ⟨w,a+1,g' 0,g' 1,g' 2⟩;refine⟨by rw[Jv z (by omega)];exact hl,H,by omega,h.op1,h.opm,G,F,a+1,z13 _,sec_set z (by omega),?_⟩;rw[Zd z (by omega) (by omega),show 1 - (1 - q)=q by omega,h2];exact .inr ⟨⟨w,c,Q 0,Q 1,Q 2⟩,h.op1,z13 _,by have:=h.ctm;show c < _;omega,small_of (h.sm 0 (by omega)) (h.sm 1 (by omega)) (h.sm 2 (by omega)), .inr (by show c < a+1;omega),rfl⟩
variable{aU:List UInt8}
theorem Zy.record (h:Zy m w a q Q r) {x:Nat} (z:aU.length=64) (H:2+x < r) (F:a+1 < 18446744073709551616):
  Zy (Xa m (2+x) aU) w (a+1) q Q r:=by
 obtain⟨c,h1,h2,h3⟩:=h.hs;have hl:=h.len;have G:=h.hd1;refine⟨by rw[Jv z (by omega)];exact hl,h.two,G,h.op1,h.opm,F,h.sm,c,by omega,?_,?_⟩
 ·rw[Zd z (by omega) (by omega)];exact h2
 ·rw[Zd z (by omega) (by omega)];exact h3
variable{aJ:Hd}
theorem Vs (z:Xj m=some (aJ,w)):w<=1/\Jz (sec m w)=true/\aJ=Qm (sec m w)/\Jz (sec m (1 - w))=true:=by
 unfold Xj at z;split at z
 ·rename_i hk;split at z
  ·cases z;exact⟨by omega,hk.2,rfl,hk.1⟩
  ·split at z
   ·cases z;exact⟨by omega,hk.1,rfl,hk.2⟩
   ·split at z
    ·rename_i h0;cases z;refine⟨by omega,hk.1,?_,hk.2⟩;rcases Ve hk.1 with ⟨_,e⟩|⟨e,_⟩
     ·exact e.symm
     ·rw[h0.1]at e;cases e
    ·cases z
 ·cases z
theorem Vo {S:List UInt8} (h:Jz S=true):(Qm S).o<=1073741824/\(Qm S).c < 18446744073709551616/\(Qm S).a<=2147483647/\(Qm S).b<=2147483647/\(Qm S).d<=2147483647:=by
 rcases Ve h with ⟨_,e⟩|⟨z,F,G,_⟩
 ·rw[e];simp[hd0]
 ·have h1:1<=(Qm S).o/\(Qm S).o<=1073741824:=by simpa[Qo]using z
  have h2:(Qm S).a<=2147483647/\(Qm S).b<=2147483647/\(Qm S).d<=2147483647:=by simpa[Hd.small]using G
  exact⟨h1.2,F,h2⟩
def Hd.num (h:Hd) (i:Nat):Nat:=if i=0 then h.a else if i=1 then h.b else h.d
def openL (L:List UInt8) (h:Hd) (at':Nat):List UInt8:=Xa L (1 - at') (Zf ⟨h.o+1,1,h.a,h.b,h.d⟩)
theorem Yr {L:List UInt8} {h:Hd} {at' m:Nat} (F:Xj L=some (h,at')) (hl:L.length=m * 64) (G:2<=m):Zy (openL L h at') (h.o+1) 1 (1 - at') h.num m:=by
 obtain⟨h1,h2,rfl,h3⟩:=Vs F;have hs:=Vo h2;have z:=Zb ⟨(Qm (sec L at')).o+1,1,(Qm (sec L at')).a,(Qm (sec L at')).b,(Qm (sec L at')).d⟩;refine⟨by unfold openL;rw[Jv z (by omega)];exact hl,G,by omega,by omega,by omega,by omega,?_,1,z13 _,sec_set z (by omega),?_⟩
 ·intro i _;unfold Hd.num;split
  ·omega
  ·split <;> omega
 ·unfold openL;rw[Zd z (by omega) (by omega),show 1 - (1 - at')=at' by omega];rcases Ve h2 with ⟨e,_⟩|⟨H,I,J,M⟩
  ·exact .inl e
  ·have h1:1<=(Qm (sec L at')).o/\(Qm (sec L at')).o<=1073741824:=(by simpa[Qo]using H);exact .inr ⟨_,h1.1,by omega,I,J, .inl (by omega),M⟩
theorem openL_other {L:List UInt8} {h:Hd} {at' m:Nat} (hl:L.length=m * 64) (z:2<=m) {k:Nat} (hk:2<=k):sec (openL L h at') k=sec L k:=by
 unfold openL;exact Zd (Zb _) (by omega) (by omega)
theorem Yp {L:List UInt8} {last:Nat} (z:last<=1073741824) (r:Nat->Rc):∀ (n x:Nat),(∀y,x<=y->y < x+n->Yl (sec L (2+y)) last (r y))->recsFrom L last x n=some ((List.range n).map fun j=>r (x+j))
 |0,_,_=>rfl
 |n+1,x,h=>by obtain⟨h1,h2⟩:=recOk_at (h x (z13 _) (by omega)) z;have ih:=Yp z r n (x+1) (fun y F G=>h y (by omega) (by omega));rw[recsFrom,if_pos h1,h2,ih,zT'];simp;intro a _;rw[xK',ze' 1 a]
theorem Xk:∀ (n x:Nat) {rs:List Rc},recsFrom m w x n=some rs->rs.length=n/\∀y,y < n->Xu (sec m (2+(x+y))) w=true/\rs[y]? =some (Zr (sec m (2+(x+y))))
 |0,_,rs,h=>by cases h;exact⟨rfl,fun y F=>by omega⟩
 |n+1,x,rs,h=>by
  rw[recsFrom]at h;split at h
  ·rename_i hk;cases z:recsFrom m w (x+1) n with
   |none=>rw[z]at h;cases h
   |some I=>
    rw[z]at h;cases h;obtain⟨G,H⟩:=Xk n (x+1) z;refine⟨by simp[G],fun y F=>?_⟩;cases y with
    |zero=>exact⟨hk,rfl⟩
    |succ y=>have:=H y (by omega);rw[show x+(y+1)=x+1+y by omega];exact⟨this.1,by rw[wn'];exact this.2⟩
  ·cases h
def openSt (L:List UInt8):Option (Hd×Nat×List Rc):=
 match Xj L with
 |none=>none
 |some (h,at')=>match recsFrom L h.o 0 (L.length / 64 - 2)with
  |none=>none
  |some rs=>some (h,at',rs)
variable{aP:List Rc}
theorem Vg (z:openSt m=some (aJ,w,aP)):Xj m=some (aJ,w)/\recsFrom m aJ.o 0 (m.length / 64 - 2)=some aP:=by
 unfold openSt at z;cases hn:Xj m with
 |none=>rw[hn]at z;cases z
 |some p=>
  obtain⟨G,a'⟩:=p;rw[hn]at z;simp only at z;cases F:recsFrom m G.o 0 (m.length / 64 - 2)with
  |none=>rw[F]at z;cases z
  |some H=>rw[F]at z;cases z;exact⟨rfl,F⟩
theorem openSt_of {L:List UInt8} (h1:Xj L=some (aJ,w)) (h2:recsFrom L aJ.o 0 (L.length / 64 - 2)=some aP):openSt L=some (aJ,w,aP):=by
 unfold openSt;rw[h1];simp only
 rw[h2]
theorem Zy.opens (h:Zy m w a q Q r) (F:w<=1073741824) (z:Nat->Rc) (G:∀x,x < r - 2->Yl (sec m (2+x)) w (z x)):
  ∃c,openSt m=some (⟨w,c,Q 0,Q 1,Q 2⟩,q,(List.range (r - 2)).map z):=by
 obtain⟨c,hn⟩:=h.Xj F;refine⟨c,openSt_of hn ?_⟩;rw[show m.length / 64=r by have:=h.len;omega];have:=Yp (L:=m) F z (r - 2) 0 (fun y _ H=>G y (by omega));simpa using this
theorem Wc (n k:Nat) (h:k * 64+64<=n):sec (List.replicate n 0) k=Xz:=by
 unfold sec Xz;rw[zz',List.take_replicate];congr 1;omega
theorem Yx (m:Nat) (z:2<=m):openSt (List.replicate (m * 64) 0)=some (hd0,0,(List.range (m - 2)).map fun _=>rc0):=by
 have h0:=Wc (m * 64) 0 (by omega);have h1:=Wc (m * 64) 1 (by omega);have hn:Xj (List.replicate (m * 64) 0)=some (hd0,0):=by unfold Xj;rw[h0,h1,Zj.1,Zj.2];rfl
 refine openSt_of hn ?_;have:=Yp (L:=List.replicate (m * 64) 0) (last:=0) (by omega) (fun _=>rc0) (m - 2) 0 (fun y _ F=> .inl ⟨Wc _ _ (by omega),rfl⟩);rw[z55,Nat.mul_div_cancel _ (by omega:0 < 64)];exact this
end Mq
namespace Mq
abbrev Pe:=Nat×z10×Nat
def insP:List Pe->Pe->List Pe
 |[],e=>[e]
 |y::r,e=>if e.1=y.1 then e::r else if e.1 < y.1 then e::y::r else y::insP r e
structure Ld where
 free:List Nat
 sh:Nat->List Pe
def Xq (g:Nat->Nat) (x:Nat) (r:Rc) (l:Ld):Option Ld:=
 if r.q<=g r.s then some {l with free:=l.free++[x]}
 else if((l.sh r.s).map (·.1)).contains r.q=true then none
 else some {l with sh:=fun i=>if i=r.s then insP (l.sh r.s) (r.q,r.b,x)else l.sh i}
def ldAll (g:Nat->Nat):List Rc->Nat->Ld->Option Ld
 |[],_,l=>some l
 |r::rs,x,l=>match Xq g x r l with
  |none=>none
  |some z=>ldAll g rs (x+1) z
def Vz (l:List Pe) (b:Nat):Nat:=max (match l.getLast? with|none=>0|some x=>x.1) b
def okP (l:List Pe) (b:Nat):Bool:=decide (Vz l b<=1073741824) &&decide (Vz l b=b+l.length)
def ld0:Ld:=⟨[],fun _=>[]⟩
def Zw (op:Nat) (g:Nat->Nat) (l:Ld):Ag:={Qa:=op+1,Qf:=0,Qd:=false,fenced:=false,fl:=fun i=>if i < 3 then {base:=g i,kept:=(l.sh i).map fun e=>(e.2.1,0),held:=[]}else {base:=0,kept:=[],held:=[]}}
def agLoad (L:List UInt8):Option Ag:=
 match openSt L with
 |none=>none
 |some (h,_,rs)=>match ldAll h.num rs 0 ld0 with
  |none=>none
  |some l=>if okP (l.sh 0) (h.num 0)=true/\okP (l.sh 1) (h.num 1)=true/\okP (l.sh 2) (h.num 2)=true then some (Zw h.o h.num l)else none
def keptP:Nat->List (z10×Nat)->List Nat->List Pe
 |b,x::r,q::z=>(b+1,x.1,q)::keptP (b+1) r z
 | _,_,_=>[]
theorem Vl:∀ (b:Nat) (k:List (z10×Nat)) (p:List Nat),p.length=k.length->(keptP b k p).length=k.length
 | _,[],[],_=>rfl
 |b,_::r,_::z,h=>by rw[keptP,z56,Vl (b+1) r z (by simpa using h),z56]
theorem Zz:∀ (b:Nat) (k:List (z10×Nat)) (p:List Nat) (j:Nat) (e:Pe),(keptP b k p)[j]? =some e->e.1=b+1+j/\(∃t,k[j]? =some (e.2.1,t))/\p[j]? =some e.2.2
 | _,[],_,j,e,h=>by simp[keptP]at h
 | _,_:: _,[],j,e,h=>by simp[keptP]at h
 |b,x::r,q::z,0,e,h=>by simp[keptP]at h;subst h;exact⟨rfl,⟨x.2,rfl⟩,rfl⟩
 |b,x::r,q::z,j+1,e,h=>by rw[keptP,wn']at h;obtain⟨h1,h2,h3⟩:=Zz (b+1) r z j e h;exact⟨by omega,h2,h3⟩
theorem keptP_gt:∀ (b:Nat) (k:List (z10×Nat)) (p:List Nat),∀e∈keptP b k p,b < e.1
 | _,[],_,e,h=>by simp[keptP]at h
 | _,_:: _,[],e,h=>by simp[keptP]at h
 |b,x::r,q::z,e,h=>by
  rw[keptP]at h;cases h with
  |head=>show b < b+1;omega
  |tail _ h=>have:=keptP_gt (b+1) r z e h;omega
theorem keptP_sorted:∀ (b:Nat) (k:List (z10×Nat)) (p:List Nat),(keptP b k p).Pairwise (fun x y=>x.1 < y.1)
 | _,[],_=>by simp[keptP]
 | _,_:: _,[]=>by simp[keptP]
 |b,x::r,q::z=>by rw[keptP,z60];exact⟨fun e F=>keptP_gt (b+1) r z e F,keptP_sorted (b+1) r z⟩
theorem Ze:∀ (b:Nat) (k:List (z10×Nat)) (p:List Nat),p.length=k.length->(keptP b k p).map (·.2.2)=p
 | _,[],[],_=>rfl
 |b,_::r,q::z,h=>by rw[keptP,z48,Ze (b+1) r z (by simpa using h)]
theorem keptP_bodies:∀ (b:Nat) (k:List (z10×Nat)) (p:List Nat),p.length=k.length->(keptP b k p).map (·.2.1)=k.map (·.1)
 | _,[],[],_=>rfl
 |b,_::r,q::z,h=>by rw[keptP,z48,keptP_bodies (b+1) r z (by simpa using h)];rfl
theorem keptP_lastP (b:Nat) (k:List (z10×Nat)) (p:List Nat) (h:p.length=k.length):Vz (keptP b k p) b=b+k.length:=by
 have hl:=Vl b k p h;unfold Vz;rw[List.getLast?_eq_getElem?];cases z:(keptP b k p)[(keptP b k p).length - 1]? with
 |none=>
  have:=List.getElem?_eq_none_iff.1 z;simp only
  omega
 |some e=>
  have h1:=(Zz _ _ _ _ _ z).1;have h2:=(z28.1 z).1;simp only
  omega
variable{cC:List Pe}{bD:Pe}
theorem insP_front (h:∀y∈cC,bD.1 < y.1):insP cC bD=bD::cC:=by
 cases cC with
 |nil=>rfl
 |cons y r=>have:=h y (.head _);rw[insP,if_neg (by omega),if_pos this]
variable{dD dL:Pe -> Bool}
theorem insP_filter:∀ (l:List Pe),l.Pairwise (fun x y=>x.1 < y.1)->bD∈l->dD bD=false->dL bD=true->(∀y∈l,y.1≠bD.1->dL y=dD y)->l.filter dL=insP (l.filter dD) bD
 |[],_,h,_,_,_=>by cases h
 |y::r,hs,z,h1,h2,h3=>by
  rw[z60]at hs;by_cases I:y.1=bD.1
  ·have O:y=bD:=by
    cases z with
    |head=>rfl
    |tail _ z=>have:=hs.1 bD z;omega
   subst O;have Q:r.filter dL=r.filter dD:=zU' fun F G=>h3 F (.tail _ G) (by have:=hs.1 F G;omega);rw[zR' h2,zS' (by simp[h1]),Q];exact(insP_front fun F G=>hs.1 F (sk'.1 G).1).symm
  ·have J:bD∈r:=by
    cases z with
    |head=>exact absurd rfl I
    |tail _ z=>exact z
   have V:=hs.1 bD J;have ih:=insP_filter r hs.2 J h1 h2 (fun F G=>h3 F (.tail _ G));have M:=h3 y (.head _) I;cases H:dD y with
   |true=>rw[zR' (by rw[M,H]),zR' H,ih,insP,if_neg (by omega),if_neg (by omega)]
   |false=>rw[zS' (by rw[M,H];simp),zS' (by simp[H]),ih]
structure Xn (a:Ag) (free:List Nat) (pl:Nat->List Nat):Prop where
 pn:∀i,i < 3->(pl i).length=(a.fl i).kept.length
 nd:(free++pl 0++pl 1++pl 2).Nodup
 lt:∀x∈free++pl 0++pl 1++pl 2,x < 24
 sum:free.length+a.room=24
structure Xp (L:List UInt8) (op ct hd:Nat) (a:Ag) (free:List Nat) (pl:Nat->List Nat):Prop where
 ok:Zy L op ct hd (fun i=>(a.fl i).base) 26
 rcs:∃rc:Nat->Rc,(∀x,x < 24->Yl (sec L (2+x)) op (rc x))/\(∀i,i < 3->∀e∈keptP (a.fl i).base (a.fl i).kept (pl i),rc e.2.2=⟨i,e.1,e.2.1⟩)/\∀x∈free,(rc x).s < 3/\(rc x).q<=(a.fl (rc x).s).base
theorem nodupLt:∀ (n:Nat) (l:List Nat),l.Nodup->(∀x∈l,x < n)->l.length<=n
 |0,[],_,_=>z13 _
 |0,x::l,_,h=>by have:=h x (.head _);omega
 |n+1,l,hn,h=>by
  by_cases F:n∈l
  ·have h1:=nodupLt n (l.erase n) (hn.erase n) (fun x z=>by have h2:=h x (List.mem_of_mem_erase z);have h3:x≠n:=fun e=>(by subst e;exact(List.Nodup.not_mem_erase hn) z);omega);have:=List.length_erase_of_mem F;omega
  ·have:=nodupLt n l hn (fun x z=>by have h2:=h x z;have h3:x≠n:=fun e=>F (by rw[<-e];exact z);omega);omega
variable{k:List Nat}{w:Nat}
theorem all_places (hn:k.Nodup) (hl:∀x∈k,x < w) (H:k.length=w):∀x,x < w->x∈k:=by
 intro x F;apply Classical.byContradiction;intro G;have:=nodupLt w (x::k) (xL'.2 ⟨G,hn⟩) (fun y z=>by
  cases z with
  |head=>exact F
  |tail _ z=>exact hl y z)
 simp at this;omega
variable{a q:Nat}
theorem nodup_ix (hn:k.Nodup) (hi:k[w]? =some q) (hj:k[a]? =some q):w=a:=by
 obtain⟨h1,z⟩:=z28.1 hi;obtain⟨h2,F⟩:=z28.1 hj;rw[List.Nodup,List.pairwise_iff_getElem]at hn;rcases Nat.lt_trichotomy w a with h|h|h
 ·exact absurd (z.trans F.symm) (hn w a h1 h2 h)
 ·exact h
 ·exact absurd (F.trans z.symm) (hn a w h2 h1 h)
variable{aC:Ag}{V:Nat -> List Nat}
theorem Xn.all (P:Xn aC k V):∀x,x < 24->x∈k\/∃i,i < 3/\x∈V i:=by
 have h0:=P.pn 0 (by omega);have h1:=P.pn 1 (by omega);have h2:=P.pn 2 (by omega);have hs:=P.sum;unfold Ag.room at hs;intro x z;have:=all_places P.nd P.lt (by simp;omega) x z;simp at this;rcases this with h|h|h|h
 ·exact .inl h
 ·exact .inr ⟨0,by omega,h⟩
 ·exact .inr ⟨1,by omega,h⟩
 ·exact .inr ⟨2,by omega,h⟩
theorem Xn.apart (P:Xn aC k V):(∀i,i < 3->(V i).Nodup)/\(∀x∈k,∀i,i < 3->x∉V i)/\∀i j,i < 3->j < 3->i≠j->∀x∈V i,x∉V j:=by
 have J:=P.nd;rw[oh',oh',oh']at J;obtain⟨⟨⟨n0,n1,n2⟩,M,H⟩,O,G⟩:=J;refine⟨fun i hi=>?_,fun x z i hi F=>?_,fun i j hi hj I x z F=>?_⟩
 ·obtain rfl|rfl|rfl:i=0\/i=1\/i=2:=by omega
  ·exact n1
  ·exact M
  ·exact O
 ·obtain rfl|rfl|rfl:i=0\/i=1\/i=2:=by omega
  ·exact n2 x z x F rfl
  ·exact H x (by simp[z]) x F rfl
  ·exact G x (by simp[z]) x F rfl
 ·obtain rfl|rfl|rfl:i=0\/i=1\/i=2:=by omega
  all_goals obtain rfl|rfl|rfl:j=0\/j=1\/j=2:=by omega
  ·exact I rfl
  ·exact H x (by simp[z]) x F rfl
  ·exact G x (by simp[z]) x F rfl
  ·exact H x (by simp[F]) x z rfl
  ·exact I rfl
  ·exact G x (by simp[z]) x F rfl
  ·exact G x (by simp[F]) x z rfl
  ·exact G x (by simp[F]) x z rfl
  ·exact I rfl
theorem ldAll_disk (P:Xn aC k V) (H:Nat->Rc) (hk:∀i,i < 3->∀e∈keptP (aC.fl i).base (aC.fl i).kept (V i),H e.2.2=⟨i,e.1,e.2.1⟩) (aq:∀x∈k,(H x).q<=(aC.fl (H x).s).base):
  ∀ (n x:Nat) (l:Ld),x+n=24->(∀i,i < 3->l.sh i=(keptP (aC.fl i).base (aC.fl i).kept (V i)).filter fun e=>decide (e.2.2 < x))->
   ∃aj,ldAll (fun i=>(aC.fl i).base) ((List.range n).map fun j=>H (x+j)) x l=some aj/\∀i,i < 3->aj.sh i=keptP (aC.fl i).base (aC.fl i).kept (V i):=by
 intro n;induction n with
 |zero=>
  intro x l au hl;refine⟨l,rfl,fun i hi=>?_⟩;rw[hl i hi];refine List.filter_eq_self.2 fun e F=>?_;have J:e.2.2∈V i:=by rw[<-Ze (aC.fl i).base (aC.fl i).kept (V i) (P.pn i hi)];exact yq' F
  have:=P.lt e.2.2 (by obtain rfl|rfl|rfl:i=0\/i=1\/i=2:=(by omega);all_goals simp[J]);simp;omega
 |succ n ih=>
  intro x l au hl;obtain⟨av,ax,ay⟩:=P.apart;rw[zT',z48,rX'];have az:(List.range n).map ((fun j=>H (x+j)) ∘Nat.succ)=(List.range n).map fun j=>H (x+1+j):=by apply yc';intro j _;show H (x+(j+1))=H (x+1+j);congr 1;omega
  rw[az,vu'];unfold ldAll;rcases P.all x (by omega)with ak|⟨i,hi,Y⟩
  ·have aA:=aq x ak;unfold Xq;rw[if_pos aA];simp only
   exact ih (x+1) {l with free:=l.free++[x]} (by omega) (fun i hi=>by
    show l.sh i= _;rw[hl i hi];refine zU' fun e F=>?_;have J:e.2.2∈V i:=by rw[<-Ze (aC.fl i).base (aC.fl i).kept (V i) (P.pn i hi)];exact yq' F
    have Z:e.2.2≠x:=fun aa=>ax x ak i hi (by rw[<-aa];exact J);rw[rV'];omega)
  ·obtain⟨e,F,ab⟩:∃e∈keptP (aC.fl i).base (aC.fl i).kept (V i),e.2.2=x:=(by rw[<-Ze (aC.fl i).base (aC.fl i).kept (V i) (P.pn i hi)]at Y;obtain⟨e,h1,h2⟩:=z63.1 Y;exact⟨e,h1,h2⟩);have ao:=hk i hi e F;rw[ab]at ao;have aJ:=keptP_gt _ _ _ e F;have aB:=keptP_sorted (aC.fl i).base (aC.fl i).kept (V i);have aD:∀y∈keptP (aC.fl i).base (aC.fl i).kept (V i),y.1=e.1->y=e:=by
    intro y G h1;obtain⟨M,ac,I⟩:=z78.1 G;obtain⟨O,ad,Q⟩:=z78.1 F;have k1:=(Zz _ _ _ M y (by rw[z18 ac,I])).1;have k2:=(Zz _ _ _ O e (by rw[z18 ad,Q])).1;have:M=O:=by omega
    subst this;rw[<-I,<-Q]
   have aE:∀y∈keptP (aC.fl i).base (aC.fl i).kept (V i),y.2.2=x->y=e:=(by intro y G h1;obtain⟨M,ac,I⟩:=z78.1 G;obtain⟨O,ad,Q⟩:=z78.1 F;have k1:=(Zz _ _ _ M y (by rw[z18 ac,I])).2.2;have k2:=(Zz _ _ _ O e (by rw[z18 ad,Q])).2.2;rw[h1]at k1;rw[ab]at k2;have:M=O:=nodup_ix (av i hi) k1 k2;subst this;rw[<-I,<-Q]);unfold Xq;rw[ao];simp only
   rw[if_neg (by omega),hl i hi];have aF:(((keptP (aC.fl i).base (aC.fl i).kept (V i)).filter fun e=>decide (e.2.2 < x)).map (·.1)).contains e.1=false:=by
    cases ap:(((keptP (aC.fl i).base (aC.fl i).kept (V i)).filter fun e=>decide (e.2.2 < x)).map (·.1)).contains e.1 with
    |false=>rfl
    |true=>rw[zm']at ap;obtain⟨y,G,I⟩:=z63.1 ap;obtain⟨aG,aH⟩:=sk'.1 G;have:=aD y aG I;subst this;simp at aH;omega
   rw[aF,if_neg (by simp)];simp only
   exact ih (x+1) {l with sh:=fun z=>if z=i then insP ((keptP (aC.fl i).base (aC.fl i).kept (V i)).filter fun e=>decide (e.2.2 < x)) (e.1,e.2.1,x)else l.sh z} (by omega) (fun z ah=>by
    show(if z=i then _ else l.sh z)= _;by_cases ai:z=i
    ·subst ai;rw[if_pos rfl];have aI:((e.1,e.2.1,x):Pe)=e:=by rw[<-ab]
     rw[aI];exact(insP_filter _ aB F (by simp;omega) (by simp;omega) (fun y G Z=>by have:y.2.2≠x:=fun h1=>Z (by rw[aE y G h1]);rw[rV'];omega)).symm
    ·rw[if_neg ai,hl z ah];refine zU' fun y G=>?_;have J:y.2.2∈V z:=(by rw[<-Ze (aC.fl z).base (aC.fl z).kept (V z) (P.pn z ah)];exact yq' G);have Z:y.2.2≠x:=fun aa=>ay z i ah hi ai x (by rw[<-aa];exact J) Y;rw[rV'];omega)
end Mq
namespace Mq
def Yj (a:Ag):Ag:={Qa:=a.Qa+1,Qf:=0,Qd:=false,fenced:=false,fl:=fun i=>if i < 3 then {base:=(a.fl i).base,kept:=(a.fl i).kept.map fun x=>(x.1,0),held:=[]}else {base:=0,kept:=[],held:=[]}}
variable{m:List UInt8}{aJ:Hd}{w:Nat}{aP:List Rc}{aD:Ld}
theorem agLoad_of (h1:openSt m=some (aJ,w,aP)) (h2:ldAll aJ.num aP 0 ld0=some aD) (h3:∀i,i < 3->okP (aD.sh i) (aJ.num i)=true):agLoad m=some (Zw aJ.o aJ.num aD):=by
 unfold agLoad;rw[h1];simp only
 rw[h2];simp only
 rw[if_pos ⟨h3 0 (by omega),h3 1 (by omega),h3 2 (by omega)⟩]
variable{aC:Ag}
theorem agLoad_some (h:agLoad m=some aC):∃hd at' rs l,openSt m=some (hd,at',rs)/\ldAll hd.num rs 0 ld0=some l/\(∀i,i < 3->okP (l.sh i) (hd.num i)=true)/\aC=Zw hd.o hd.num l:=by
 unfold agLoad at h;cases z:openSt m with
 |none=>rw[z]at h;cases h
 |some p=>
  obtain⟨hd,at',rs⟩:=p;rw[z]at h;simp only at h;cases hl:ldAll hd.num rs 0 ld0 with
  |none=>rw[hl]at h;cases h
  |some l=>
   rw[hl]at h;simp only at h;split at h
   ·rename_i hk;cases h;refine⟨hd,at',rs,l,rfl,hl,fun i hi=>?_,rfl⟩;obtain rfl|rfl|rfl:i=0\/i=1\/i=2:=by omega
    ·exact hk.1
    ·exact hk.2.1
    ·exact hk.2.2
   ·cases h
theorem num_fun (g:Nat->Nat) (op c i:Nat) (hi:i < 3):Hd.num ⟨op,c,g 0,g 1,g 2⟩ i=g i:=by
 unfold Hd.num;obtain rfl|rfl|rfl:i=0\/i=1\/i=2:=by omega
 all_goals rfl
variable{Q:Nat -> Nat}
theorem ldAll_num {g':Nat->Nat} (z:∀i,i < 3->Q i=g' i):∀ (rs:List Rc) (x:Nat) (l:Ld),(∀r∈rs,r.s < 3)->ldAll Q rs x l=ldAll g' rs x l
 |[],_,_,_=>rfl
 |r::rs,x,l,h=>by
  have e:Xq Q x r l=Xq g' x r l:=by unfold Xq;rw[z r.s (h r (.head _))]
  unfold ldAll;rw[e];split
  ·rfl
  ·exact ldAll_num z rs (x+1) _ (fun F G=>h F (.tail _ G))
variable{a q:Nat}{k:List Nat}{V:Nat -> List Nat}
theorem Xp.loads (D:Xp m w a q aC k V) (P:Xn aC k V) (I:aC.Qa=w) (J:w<=1073741824) (M:∀i,i < 3->(aC.fl i).base+(aC.fl i).kept.length<=1073741824):
  agLoad m=some (Yj aC):=by
 obtain⟨z,H,O,Q⟩:=D.rcs;obtain⟨c,Y⟩:=D.ok.opens J z (fun x F=>H x F);obtain⟨l,hl,hs⟩:=ldAll_disk P z O (fun x F=>(Q x F).2) 24 0 ld0 (by omega) (fun i _=>(List.filter_eq_nil_iff.2 fun e _=>by simp).symm);have Z:(List.range 24).map (fun j=>z (0+j))=(List.range (26 - 2)).map z:=by apply yc';intro j _;rw[z44]
 rw[Z]at hl;have G:=fun i hi=>num_fun (fun i=>(aC.fl i).base) w c i hi;have aa:ldAll (Hd.num ⟨w,c,(aC.fl 0).base,(aC.fl 1).base,(aC.fl 2).base⟩) ((List.range (26 - 2)).map z) 0 ld0=some l:=by
  rw[ldAll_num (g':=fun i=>(aC.fl i).base) G _ _ _ ?_]
  ·exact hl
  ·intro r ab;obtain⟨x,F,rfl⟩:=z63.1 ab;rcases H x (by simpa using F)with ⟨_,e⟩|⟨_,_,_,_,_,_,ac,_⟩
   ·rw[e];simp[rc0]
   ·exact ac.1
 rw[agLoad_of Y aa (fun i hi=>by rw[G i hi,hs i hi];have:=M i hi;unfold okP;rw[keptP_lastP _ _ _ (P.pn i hi),Vl _ _ _ (P.pn i hi)];simp;omega)];unfold Zw Yj;congr 2
 ·rw[I]
 ·funext i;by_cases hi:i < 3
  ·rw[if_pos hi,if_pos hi,G i hi,hs i hi];congr 1;have:=keptP_bodies (aC.fl i).base (aC.fl i).kept (V i) (P.pn i hi);have h2:=congrArg (List.map fun b:z10=>(b,0)) this;rw[rX',rX']at h2;exact h2
  ·rw[if_neg hi,if_neg hi]
theorem Wb:∀ (b:Nat) (k z:List (z10×Nat)) (p:List Nat),k.map (·.1)=z.map (·.1)->keptP b k p=keptP b z p
 | _,[],[],_,_=>rfl
 |b,[],_:: _,p,h=>by simp at h
 |b,_:: _,[],p,h=>by simp at h
 |b,x::r,y::s,[],_=>by simp[keptP]
 |b,x::r,y::s,q::F,h=>by simp only[List.map_cons,List.cons.injEq]at h;rw[keptP,keptP,h.1,Wb (b+1) r s F h.2]
theorem keptP_app:∀ (b:Nat) (k z:List (z10×Nat)) (p F:List Nat),p.length=k.length->keptP b (k++z) (p++F)=keptP b k p++keptP (b+k.length) z F
 |b,[],z,[],F,_=>by simp[keptP]
 |b,[],z,q::G,F,h=>by simp at h
 |b,x::r,z,[],F,h=>by simp at h
 |b,x::r,z,q::G,F,h=>by show keptP b (x::(r++z)) (q::(G++F))= _;rw[keptP,keptP,keptP_app (b+1) r z G F (by simpa using h),z56,show b+1+r.length=b+(r.length+1) by omega];rfl
theorem keptP_drop:∀ (n b:Nat) (k:List (z10×Nat)) (p:List Nat),n<=k.length->p.length=k.length->keptP (b+n) (k.drop n) (p.drop n)=(keptP b k p).drop n
 |0,b,k,p,_,_=>rfl
 |n+1,b,[],p,h,_=>by simp at h
 |n+1,b,x::r,[],_,h=>by simp at h
 |n+1,b,x::r,q::z,h,h2=>by rw[wr',wr',keptP,wr',<-keptP_drop n (b+1) r z (by simpa using h) (by simpa using h2),show b+1+n=b+(n+1) by omega]
variable{dR:Ag}
theorem Xp.same (D:Xp m w a q aC k V) (hb:∀i,i < 3->(dR.fl i).base=(aC.fl i).base/\(dR.fl i).kept.map (·.1)=(aC.fl i).kept.map (·.1)):Xp m w a q dR k V:=by
 obtain⟨F,G,I,J⟩:=D.rcs;obtain⟨k1,k2,k3,k4,k5,k6,k7,c,k8,k9,k10⟩:=D.ok;have h3:∀x,x < 24->(F x).s < 3:=fun x z=>by
  rcases G x z with ⟨_,e⟩|⟨_,_,_,_,_,_,M,_⟩
  ·rw[e];simp[rc0]
  ·exact M.1
 refine⟨⟨k1,k2,k3,k4,k5,k6,fun i hi=>by rw[(hb i hi).1];exact k7 i hi,c,k8,?_,k10⟩,F,G,fun i hi e H=>?_,fun x z=>?_⟩
 ·rw[(hb 0 (by omega)).1,(hb 1 (by omega)).1,(hb 2 (by omega)).1];exact k9
 ·rw[(hb i hi).1,Wb _ _ _ _ (hb i hi).2]at H;exact I i hi e H
 ·obtain⟨h1,h2⟩:=J x z;exact⟨h1,by rw[(hb _ h1).1];exact h2⟩
theorem Xp.Xi {L:List UInt8} {op ct hd:Nat} {a:Ag} {fr:List Nat} {x:Nat} {F:Nat->List Nat} (D:Xp L op ct hd a (fr++[x]) F) (P:Xn a (fr++[x]) F) {s:Nat} (hs:s < 3) {b:z10} (hb:b.size<=20) (Q:ct+1 < 18446744073709551616) (aa:(a.fl s).base+(a.fl s).kept.length+1<=2147483647):
  Xp (Xa L (2+x) (Xl op (ct+1) ⟨s,(a.fl s).base+(a.fl s).kept.length+1,b⟩)) op (ct+1) hd (a.Xi s b) fr (fun t=>if t=s then F s++[x]else F t):=by
 obtain⟨ab,ac,V,ad⟩:=D.rcs;have av:x < 24:=P.lt x (by simp);have I:(Xl op (ct+1) ⟨s,(a.fl s).base+(a.fl s).kept.length+1,b⟩).length=64:=Ye hb;have hl:=D.ok.len;have J:∀j,(a.Xi s b).fl j=if j=s then {a.fl s with kept:=(a.fl s).kept++[(b,0)]}else a.fl j:=fun j=>rfl
 have Y:∀j,((a.Xi s b).fl j).base=(a.fl j).base:=fun j=>by
  rw[J];split
  ·rename_i e;rw[e]
  ·rfl
 have ah:Rc.fits ⟨s,(a.fl s).base+(a.fl s).kept.length+1,b⟩:=⟨hs,by show 1<=(a.fl s).base+ _+1;omega,aa,hb⟩;obtain⟨ax,ai,ay⟩:=P.apart;have aj:∀i,i < 3->x∉F i:=ai x (by simp);have ak:x∉fr:=by have:=P.nd;rw[oh',oh',oh']at this;obtain⟨⟨⟨n0,_⟩,_⟩,_⟩:=this;rw[oh']at n0;intro ao;exact n0.2.2 x ao x (by simp) rfl
 have ap:=D.ok.record (x:=x) I (by omega) Q;have aq:(fun i=>((a.Xi s b).fl i).base)=fun i=>(a.fl i).base:=funext Y;obtain⟨M,G⟩:∃M:Nat->Rc,∀y,M y=if y=x then⟨s,(a.fl s).base+(a.fl s).kept.length+1,b⟩else ab y:=⟨_,fun _=>rfl⟩
 refine⟨by rw[aq];exact ap,M,fun y H=>?_,fun i hi e z=>?_,fun y H=>?_⟩
 ·by_cases e:y=x
  ·subst e;rw[G,if_pos rfl,sec_set I (by omega)];exact .inr ⟨op,ct+1,D.ok.op1,z13 _,D.ok.opm,Q,ah,rfl⟩
  ·rw[G,if_neg e,Zd I (by omega) (by omega)];exact ac y H
 ·have Z:∀i,i < 3->∀e∈keptP (a.fl i).base (a.fl i).kept (F i),e.2.2≠x:=fun i hi e z h1=>by apply aj i hi;rw[<-Ze (a.fl i).base (a.fl i).kept (F i) (P.pn i hi),<-h1];exact yq' z
  by_cases O:i=s
  ·subst O;rw[J,if_pos rfl,if_pos rfl,keptP_app _ _ _ _ _ (P.pn i hi),z61]at z;rcases z with z|z
   ·rw[G,if_neg (Z i hi e z)];exact V i hi e z
   ·simp only[keptP,List.mem_singleton]at z;subst z;rw[G,if_pos rfl]
  ·rw[J,if_neg O,if_neg O]at z;rw[G,if_neg (Z i hi e z)];exact V i hi e z
 ·have au:y≠x:=fun e=>ak (by rw[<-e];exact H);rw[G,if_neg au,Y];exact ad y (by simp[H])
theorem Xp.gone {a':Ag} {free':List Nat} {pl':Nat->List Nat} (D:Xp m w a q aC k V) (P:Xn aC k V) (n:Nat->Nat) (hn:∀i,i < 3->n i<=(aC.fl i).kept.length) (hb:∀i,i < 3->(a'.fl i).base=(aC.fl i).base+n i/\(a'.fl i).kept.map (·.1)=((aC.fl i).kept.drop (n i)).map (·.1))
  (J:∀i,i < 3->pl' i=(V i).drop (n i)) (M:∀x∈free',x∈k\/∃i,i < 3/\x∈ (V i).take (n i)) (O:a+1 < 18446744073709551616) (Q:∀i,i < 3->(aC.fl i).base+(aC.fl i).kept.length<=2147483647):
  Xp (Xa m (1 - q) (Zf ⟨w,a+1,(a'.fl 0).base,(a'.fl 1).base,(a'.fl 2).base⟩)) w (a+1) (1 - q) a' free' pl':=by
 obtain⟨Y,Z,G,aa⟩:=D.rcs;have hl:=D.ok.len;refine⟨D.ok.numbers (g':=fun i=>(a'.fl i).base) (fun i hi=>by have:=Q i hi;have:=hn i hi;rw[(hb i hi).1];omega) O,Y,fun y F=>?_,fun i hi e H=>?_,fun y F=>?_⟩
 ·rw[Zd (Zb _) (by omega) (by omega)];exact Z y F
 ·rw[(hb i hi).1,Wb _ _ _ _ (hb i hi).2,J i hi,keptP_drop _ _ _ _ (hn i hi) (P.pn i hi)]at H;exact G i hi e (zw' H)
 ·rcases M y F with h|⟨i,hi,h⟩
  ·obtain⟨h1,h2⟩:=aa y h;exact⟨h1,by rw[(hb _ h1).1];omega⟩
  ·obtain⟨j,hj,e⟩:=z78.1 h;have ab:j < n i/\j < (V i).length:=(by simp at hj;omega);have ac:(V i)[j]? =some y:=(by rw[List.getElem_take]at e;rw[z18 ab.2,e]);have ah:=Vl (aC.fl i).base (aC.fl i).kept (V i) (P.pn i hi);have ai:=P.pn i hi;have I:j < (keptP (aC.fl i).base (aC.fl i).kept (V i)).length:=(by omega);obtain⟨g1,g2,z⟩:=Zz _ _ _ j _ (z18 I);rw[ac]at z;have ad:(keptP (aC.fl i).base (aC.fl i).kept (V i))[j].2.2=y:=(by injection z with z;exact z.symm);have:=G i hi _ (z81 I);rw[ad]at this;rw[this];refine⟨hi,?_⟩;show(keptP (aC.fl i).base (aC.fl i).kept (V i))[j].1<=(a'.fl i).base;rw[g1,(hb i hi).1];omega
end Mq
namespace Mq
variable{bD:Pe}
theorem insP_perm:∀ {l:List Pe},(∀y∈l,y.1≠bD.1)->(insP l bD).Perm (bD::l)
 |[],_=>List.Perm.refl _
 |y::r,h=>by
  have h1:=h y (.head _);unfold insP;rw[if_neg (fun z=>h1 z.symm)];split
  ·exact List.Perm.refl _
  ·exact((insP_perm (fun F G=>h F (.tail _ G))).cons y).trans (List.Perm.swap bD y r)
theorem insP_sorted:∀ {l:List Pe},l.Pairwise (fun x y=>x.1 < y.1)->(∀y∈l,y.1≠bD.1)->(insP l bD).Pairwise (fun x y=>x.1 < y.1)
 |[],_,_=>by simp[insP]
 |y::r,hs,h=>by
  have h1:=h y (.head _);rw[z60]at hs;unfold insP;rw[if_neg (fun H=>h1 H.symm)];split
  ·rename_i G;rw[z60,z60];refine⟨fun F z=>?_,hs.1,hs.2⟩;cases z with
   |head=>exact G
   |tail _ z=>exact Nat.lt_trans G (hs.1 F z)
  ·rename_i G;rw[z60];refine⟨fun F z=>?_,insP_sorted hs.2 (fun F z=>h F (.tail _ z))⟩;have:=(insP_perm (fun F z=>h F (.tail _ z)):(insP r bD).Perm (bD::r)).subset z;cases this with
   |head=>omega
   |tail _ z=>exact hs.1 F z
structure LdInv (g:Nat->Nat) (rs:List Rc) (x:Nat) (l:Ld):Prop where
 srt:∀i,(l.sh i).Pairwise (fun y z=>y.1 < z.1)
 rcd:∀i,∀e∈l.sh i,g i < e.1/\e.2.2 < x/\rs[e.2.2]? =some ⟨i,e.1,e.2.1⟩
 fre:∀y∈l.free,y < x/\∃r,rs[y]? =some r/\r.q<=g r.s
 nd:(l.free++(l.sh 0).map (·.2.2)++(l.sh 1).map (·.2.2)++(l.sh 2).map (·.2.2)).Nodup
 sum:l.free.length+(l.sh 0).length+(l.sh 1).length+(l.sh 2).length=x
theorem ldInv_zero (g:Nat->Nat) (rs:List Rc):LdInv g rs 0 ld0:=
 ⟨fun i=>List.Pairwise.nil,fun i e z=>by simp[ld0]at z,fun y F=>by simp[ld0]at F,by simp[ld0],rfl⟩
variable{Q:Nat -> Nat}{aP:List Rc}{aD cX:Ld}{U:Rc}
theorem LdInv.step {x:Nat} (h:LdInv Q aP x aD) (Y:aP[x]? =some U) (hs:U.s < 3) (hl:Xq Q x U aD=some cX):LdInv Q aP (x+1) cX:=by
 have aa:∀y∈aD.free++(aD.sh 0).map (·.2.2)++(aD.sh 1).map (·.2.2)++(aD.sh 2).map (·.2.2),y < x:=by
  intro y z;simp only[List.mem_append,List.mem_map]at z;rcases z with ((z|⟨e,F,rfl⟩)|⟨e,F,rfl⟩)|⟨e,F,rfl⟩
  ·exact(h.fre y z).1
  ·exact(h.rcd 0 e F).2.1
  ·exact(h.rcd 1 e F).2.1
  ·exact(h.rcd 2 e F).2.1
 have ab:x∉aD.free++(aD.sh 0).map (·.2.2)++(aD.sh 1).map (·.2.2)++(aD.sh 2).map (·.2.2):=fun I=>Nat.lt_irrefl _ (aa x I);have Z:=xL'.2 ⟨ab,h.nd⟩;unfold Xq at hl;split at hl
 ·rename_i O;cases hl;refine⟨h.srt,fun i e F=>⟨(h.rcd i e F).1,wZ' (h.rcd i e F).2.1,(h.rcd i e F).2.2⟩,fun y z=>?_,?_,?_⟩
  ·rw[z61,z51]at z;rcases z with z|rfl
   ·exact⟨wZ' (h.fre y z).1,(h.fre y z).2⟩
   ·exact⟨yd' _,U,Y,O⟩
  ·refine(List.Perm.nodup_iff ?_).2 Z;simp only[List.append_assoc];exact yr'
  ·have:=h.sum;simp only[List.length_append,List.length_singleton];omega
 ·rename_i O;split at hl
  ·cases hl
  ·rename_i ac;cases hl;have hk:∀y∈aD.sh U.s,y.1≠U.q:=fun y z e=>ac (by rw[zm'];exact z63.2 ⟨y,z,e⟩);have V:(insP (aD.sh U.s) (U.q,U.b,x)).Perm ((U.q,U.b,x)::aD.sh U.s):=insP_perm hk;have G:((insP (aD.sh U.s) (U.q,U.b,x)).map (·.2.2)).Perm (x::(aD.sh U.s).map (·.2.2)):=V.map _;refine⟨fun i=>?_,fun i e F=>?_,fun y z=>⟨wZ' (h.fre y z).1,(h.fre y z).2⟩,?_,?_⟩
   ·show List.Pairwise _ (if i=U.s then insP (aD.sh U.s) (U.q,U.b,x)else aD.sh i);split
    ·exact insP_sorted (h.srt U.s) hk
    ·exact h.srt i
   ·have H:e∈ (if i=U.s then insP (aD.sh U.s) (U.q,U.b,x)else aD.sh i):=F;by_cases J:i=U.s
    ·rw[if_pos J]at H;have:=V.subset H;cases this with
     |head=>rw[J];exact⟨Nat.lt_of_not_le O,yd' _,Y⟩
     |tail _ I=>rw[J];exact⟨(h.rcd U.s e I).1,wZ' (h.rcd U.s e I).2.1,(h.rcd U.s e I).2.2⟩
    ·rw[if_neg J]at H;exact⟨(h.rcd i e H).1,wZ' (h.rcd i e H).2.1,(h.rcd i e H).2.2⟩
   ·refine(List.Perm.nodup_iff ?_).2 Z;show(aD.free++(if 0=U.s then insP (aD.sh U.s) (U.q,U.b,x)else aD.sh 0).map (·.2.2)++(if 1=U.s then insP (aD.sh U.s) (U.q,U.b,x)else aD.sh 1).map (·.2.2)++(if 2=U.s then insP (aD.sh U.s) (U.q,U.b,x)else aD.sh 2).map (·.2.2)).Perm _;obtain e|e|e:U.s=0\/U.s=1\/U.s=2:=by omega
    ·rw[e]at G ⊢;rw[if_pos rfl,if_neg (by omega),if_neg (by omega)];simp only[List.append_assoc];exact((yp' _ (zH' _ G))).trans yr'
    ·rw[e]at G ⊢;rw[if_neg (by omega),if_pos rfl,if_neg (by omega)];simp only[List.append_assoc];refine(yp' _ (yp' _ (zH' _ G))).trans ?_;rw[yY',<-z38 aD.free,<-z38 aD.free];exact yr'
    ·rw[e]at G ⊢;rw[if_neg (by omega),if_neg (by omega),if_pos rfl];exact(yp' _ G).trans yr'
   ·have M:=V.length_eq;rw[z56]at M;have:=h.sum;show aD.free.length+(if 0=U.s then insP (aD.sh U.s) (U.q,U.b,x)else aD.sh 0).length+(if 1=U.s then insP (aD.sh U.s) (U.q,U.b,x)else aD.sh 1).length+(if 2=U.s then insP (aD.sh U.s) (U.q,U.b,x)else aD.sh 2).length=x+1;obtain e|e|e:U.s=0\/U.s=1\/U.s=2:=by omega
    ·rw[e]at M ⊢;rw[if_pos rfl,if_neg (by omega),if_neg (by omega)];omega
    ·rw[e]at M ⊢;rw[if_neg (by omega),if_pos rfl,if_neg (by omega)];omega
    ·rw[e]at M ⊢;rw[if_neg (by omega),if_neg (by omega),if_pos rfl];omega
theorem ldInv_all {g:Nat->Nat} {rs:List Rc}:∀ (z:List Rc) (x:Nat) (l F:Ld),(∀j,z[j]? =rs[x+j]?)->(∀r∈z,r.s < 3)->LdInv g rs x l->ldAll g z x l=some F->LdInv g rs (x+z.length) F
 |[],x,l,F,_,_,h,hl=>by cases hl;exact h
 |r::z,x,l,F,G,hs,h,hl=>by
  unfold ldAll at hl;cases hst:Xq g x r l with
  |none=>rw[hst]at hl;cases hl
  |some H=>rw[hst]at hl;have h0:=G 0;rw[List.getElem?_cons_zero,vu']at h0;have:=ldInv_all z (x+1) H F (fun j=>by have:=G (j+1);rw[wn']at this;rw[this];congr 1;omega) (fun I J=>hs I (.tail _ J)) (h.step h0.symm (hs r (.head _)) hst) hl;rw[z56,show x+(z.length+1)=x+1+z.length by omega];exact this
theorem sorted_room:∀ (r:List Pe) (c u:Nat),c<=u->r.Pairwise (fun x y=>x.1 < y.1)->(∀y∈r,c < y.1/\y.1<=u)->c+r.length<=u
 |[],c,u,h,_,_=>by simpa using h
 |y::r,c,u,h,hs,z=>by rw[z60]at hs;have h1:=z y (.head _);have:=sorted_room r y.1 u h1.2 hs.2 (fun F G=>⟨hs.1 F G,(z F (.tail _ G)).2⟩);rw[z56];omega
theorem keptP_of:∀ (l:List Pe) (b:Nat),l.Pairwise (fun x y=>x.1 < y.1)->(∀e∈l,b < e.1/\e.1<=b+l.length)->keptP b (l.map fun e=>(e.2.1,0)) (l.map (·.2.2))=l
 |[],_,_,_=>rfl
 |e::r,b,hs,hb=>by
  rw[z60]at hs;have h1:=hb e (.head _);rw[z56]at h1;have h2:=sorted_room r e.1 (b+(r.length+1)) h1.2 hs.2 (fun z F=>⟨hs.1 z F,by have:=(hb z (.tail _ F)).2;rw[z56]at this;exact this⟩);have h3:e.1=b+1:=by omega
  rw[z48,z48,keptP];have:=keptP_of r (b+1) hs.2 (fun z F=>⟨by have:=hs.1 z F;omega,by have:=(hb z (.tail _ F)).2;rw[z56]at this;omega⟩);rw[this,<-h3]
variable{cC:List Pe}{w:Nat}
theorem lastP_bound (hs:cC.Pairwise (fun x y=>x.1 < y.1)):∀e∈cC,e.1<=Vz cC w:=by
 intro e F;obtain⟨j,hj,z⟩:=z78.1 F;unfold Vz;rw[List.getLast?_eq_getElem?,z18 (by omega:cC.length - 1 < cC.length)];simp only
 by_cases h:j=cC.length - 1
 ·subst h;rw[<-z];omega
 ·have:=List.pairwise_iff_getElem.1 hs j (cC.length - 1) hj (by omega) (by omega);rw[z]at this;omega
def plOf (l:Ld) (i:Nat):List Nat:=(l.sh i).map (·.2.2)
variable{m:List UInt8}{aJ:Hd}
theorem Yy (Y:openSt m=some (aJ,w,aP)) (hl:ldAll aJ.num aP 0 ld0=some aD) (hk:∀i,i < 3->okP (aD.sh i) (aJ.num i)=true) (Z:m.length=1664):
  Xp (openL m aJ w) (aJ.o+1) 1 (1 - w) (Zw aJ.o aJ.num aD) aD.free (plOf aD)/\Xn (Zw aJ.o aJ.num aD) aD.free (plOf aD)/\(∀i,i < 3->keptP (aJ.num i) ((aD.sh i).map fun e=>(e.2.1,0)) (plOf aD i)=aD.sh i):=by
 obtain⟨hn,M⟩:=Vg Y;rw[Z]at M;obtain⟨aa,O⟩:=Xk _ _ M;have ab:∀x,x < 24->Yl (sec m (2+x)) (aJ.o+1) (aP.getD x rc0):=fun x z=>by obtain⟨k1,k2⟩:=O x z;rw[z44]at k1 k2;rw[z17,k2];exact(recAt_ok k1).up (by omega)
 have Q:∀r∈aP,r.s < 3:=fun r M=>by obtain⟨x,z,e⟩:=z78.1 M;obtain⟨k1,k2⟩:=O x (by omega);rw[z18 z,e]at k2;cases k2;exact(recOk_small k1).1
 have F:=ldInv_all (g:=aJ.num) (rs:=aP) aP 0 ld0 aD (fun j=>by rw[z44]) Q (ldInv_zero _ _) hl;have ac:aP.length=24:=aa;rw[ac,z44]at F;have H:=Yr hn (m:=26) (by omega) (by omega);have V:∀i,i < 3->keptP (aJ.num i) ((aD.sh i).map fun e=>(e.2.1,0)) (plOf aD i)=aD.sh i:=fun i hi=>by refine keptP_of _ _ (F.srt i) (fun e G=>⟨(F.rcd i e G).1,?_⟩);have h1:=hk i hi;unfold okP at h1;simp only[Bool.and_eq_true,decide_eq_true_eq]at h1;rw[<-h1.2];exact lastP_bound (F.srt i) e G
 have I:∀i,i < 3->((Zw aJ.o aJ.num aD).fl i).base=aJ.num i:=fun i hi=>by unfold Zw;simp only;rw[if_pos hi]
 have J:∀i,i < 3->((Zw aJ.o aJ.num aD).fl i).kept=(aD.sh i).map fun e=>(e.2.1,0):=fun i hi=>by unfold Zw;simp only;rw[if_pos hi]
 refine⟨⟨⟨H.len,H.two,H.hd1,H.op1,H.opm,H.ctm,fun i hi=>by rw[I i hi];exact H.sm i hi,?_⟩,fun x=>aP.getD x rc0,fun x z=>?_,fun i hi e G=>?_,fun x z=>?_⟩,⟨fun i hi=>?_,F.nd,fun x z=>?_,?_⟩,V⟩
 ·rw[I 0 (by omega),I 1 (by omega),I 2 (by omega)];exact H.hs
 ·rw[openL_other (m:=26) (by omega) (by omega) (by omega)];exact ab x z
 ·rw[I i hi,J i hi,V i hi]at G;show aP.getD e.2.2 rc0= _;rw[z17,(F.rcd i e G).2.2];rfl
 ·obtain⟨_,r,h1,h2⟩:=F.fre x z;have:aP.getD x rc0=r:=by rw[z17,h1];rfl
  show(aP.getD x rc0).s < 3/\(aP.getD x rc0).q<=((Zw aJ.o aJ.num aD).fl (aP.getD x rc0).s).base;rw[this];have h3:=Q r (z72 h1);exact⟨h3,by rw[I _ h3];exact h2⟩
 ·rw[J i hi];simp[plOf]
 ·simp only[List.mem_append,plOf,List.mem_map]at z;rcases z with ((z|⟨e,G,rfl⟩)|⟨e,G,rfl⟩)|⟨e,G,rfl⟩
  ·exact(F.fre x z).1
  ·exact(F.rcd 0 e G).2.1
  ·exact(F.rcd 1 e G).2.1
  ·exact(F.rcd 2 e G).2.1
 ·have:=F.sum;unfold Ag.room;rw[J 0 (by omega),J 1 (by omega),J 2 (by omega)];simp only[List.length_map];omega
end Mq
end Go.Proofs.YtamafdcnbcoegaaGreat
namespace Go.Proofs.YtamafdcnbcoegaaGreat
attribute [local simp, local go_sem] Ev Ep Ei Eb Et
open Go.RowKit Go.Proofs.Tryz
structure Yv (op ct n:Nat) (st:Mq.Stv) (a:Mq.Ag) (free:List Nat) (pl:Nat->List Nat):Prop where
 dead:st.dk.dead=false
 arm:st.dk.Zo=n
 op:st.Qe=op
 ct:st.count<=ct
 dk:Mq.Xp st.dk.bytes st.Qe st.count st.head a free pl
variable{y:Mq.Ag}{w:Nat}{Q:Nat -> Nat}{k:List Nat}{R:Nat -> List (Nat×Value)}{V:Nat -> List Nat}
theorem Js.places (z:Js y w Q k R V):Mq.Xn y k V:=⟨z.pn,z.nd,z.lt,z.sum⟩
variable{a q:Nat}{P:Mq.Stv}
theorem nC' (h:Yv w a q P y k V) (z:a+1 < 18446744073709551616):P.next=P.count+1:=by
 have:=h.ct;unfold Mq.Stv.next
 omega
variable{r C:Nat}{o:z10}
theorem xa' (h:Yv w a q P y (k++[r]) V) (G:a+1000 < 18446744073709551616) (hn:q≠1) (z:Mq.Xn y (k++[r]) V) (hi:C < 3) (hb:o.size<=20) (H:(y.fl C).base+(y.fl C).kept.length < 2147483647):
  (P.Qz r C ((y.fl C).base+(y.fl C).kept.length+1) o.data.toList).1=0/\Yv w (a+1) (q - 1) (P.Qz r C ((y.fl C).base+(y.fl C).kept.length+1) o.data.toList).2 (y.Xi C o) k (fun t=>if t=C then V C++[r]else V t):=by
 have F:=nC' h (by omega);have hd:=h.dk.Xi z hi hb (by have:=h.ct;omega) (by omega);have h1:=h.dead;have h2:=h.arm;have h3:=h.ct;unfold Mq.Stv.Qz Mq.Dk.put;rw[if_neg (by rw[h1];simp),if_neg (by rw[h2];exact hn),F];exact⟨rfl,rfl,by show P.dk.Zo - 1=q - 1;rw[h2],h.op,by show P.count+1<=a+1;omega,hd⟩
theorem Yv.sound (h:Yv w a 0 P y k V):tL' P:=⟨h.dead,h.arm⟩
def yV' (op ct n:Nat) (w x:World) (p:Nat) (a:Mq.Ag) (c:Av):Prop:=
 ∃g free sh z st,Ja w x p g a.Qf a.Qd a.fenced free sh st c/\Yv op ct n st a free z/\Js a st.Qe g free sh z
section
variable {w x y:World} {p:Nat} {g:Nat->Nat} {tk:Nat} {wel fen:Bool} {free:List Nat} {sh:Nat->List (Nat×Value)} {st st2:Mq.Stv} {c:Av} {a:Mq.Ag} {op ct n:Nat} {pl:Nat->List Nat}
theorem oS' (G:Je w p g a.Qf a.Qd a.fenced free sh st c) (hs:st.dk.dead=false) (O:Js a st.Qe g free sh pl) (i:Int) (s:z10) (H:a.Jy i s.size≠0):
  Calls prog 52 #[D' p, .int .i64 i, .string s] w fun r Z=>r= .returned (.int .i64 (a.Jy i s.size))/\Z=w:=by
 have c0:w.cell? ⟨p,0,none⟩=some (D' c.s):=by rw[y' G.ks.blk,G.ks.a0]
 have J:=aL' G.stt;rw[hs]at J;have M:=m' J;obtain⟨aa,cap,Q,_⟩:=G.ks.fr.shape;have ab:w.cell? ⟨p,22,none⟩=some (.slice aa free.length cap):=by rw[y' G.ks.blk,G.ks.af,Q]
 have V:=O.sum;obtain⟨m,Y⟩:=exq (free.length);rw[<-Y]at ab V;have I:=m' (bC' i w);obtain⟨e,z⟩:=exq (a.Jy i s.size);rw[<-z];have ac:(Qb.isStr i=false/\e=5)\/(Qb.isStr i=true/\20 < s.size/\e=6)\/(Qb.isStr i=true/\¬20 < s.size/\m=0/\e=7):=by
  unfold Mq.Ag.Jy at z H;by_cases h1:i < 0\/3<=i
  ·rw[if_pos h1]at z;refine .inl ⟨?_,z⟩;cases ad:Qb.isStr i
   ·rfl
   ·simp[Qb.isStr]at ad;omega
  ·rw[if_neg h1]at z H;have hst:Qb.isStr i=true:=(by simp[Qb.isStr];omega);by_cases h2:20 < s.size
   ·rw[if_pos h2]at z;exact .inr (.inl ⟨hst,h2,z⟩)
   ·rw[if_neg h2]at z H;by_cases h3:24<=a.room
    ·rw[if_pos h3]at z;exact .inr (.inr ⟨hst,h2,by omega,z⟩)
    ·rw[if_neg h3]at H;exact absurd rfl H
 clear G J Q Y H z O V;unfold D' at *;rcases ac with ⟨h1,rfl⟩|⟨h1,h2,rfl⟩|⟨h1,h2,rfl,rfl⟩
 ·rw[h1]at I;go_enter func52,ntmps52;go_wp2_with (first|(go_at_call 86;refine(d' M).mono ?_;rintro r y ⟨rfl,F⟩;obtain rfl:w=y:=F.symm)|(go_at_call 87;refine(d' I).mono ?_;rintro r y ⟨rfl,F⟩;obtain rfl:w=y:=F.symm));go_ret;exact⟨rfl,rfl⟩
 ·rw[h1]at I;have ah:(20:Int) < (s.size:Int):=by omega
  go_enter func52,ntmps52;go_wp2_with (first|(go_at_call 86;refine(d' M).mono ?_;rintro r y ⟨rfl,F⟩;obtain rfl:w=y:=F.symm)|(go_at_call 87;refine(d' I).mono ?_;rintro r y ⟨rfl,F⟩;obtain rfl:w=y:=F.symm));go_ret;exact⟨rfl,rfl⟩
 ·rw[h1]at I;have ah:¬ (20:Int) < (s.size:Int):=by omega
  go_enter func52,ntmps52;go_wp2_with (first|(go_at_call 86;refine(d' M).mono ?_;rintro r y ⟨rfl,F⟩;obtain rfl:w=y:=F.symm)|(go_at_call 87;refine(d' I).mono ?_;rintro r y ⟨rfl,F⟩;obtain rfl:w=y:=F.symm));go_ret;exact⟨rfl,rfl⟩
theorem ys' (z:Je w p g a.Qf a.Qd a.fenced free sh st c) (hs:Yv op ct n st a free pl) (aQ:ct+1000 < 18446744073709551616) (aR:n≠1) (I:Js a st.Qe g free sh pl) {i:Nat} (hi:i < 3) (s:z10) (ax:s.size<=20) (bu:a.room < 24) (ay:(a.fl i).base+(a.fl i).kept.length < 2147483647):
  Calls prog 52 #[D' p, .int .i64 i, .string s] w fun r F=>r= .returned (.int .i64 0)/\yV' op (ct+1) (n - 1) w F p (a.Xi i s) c:=by
 have aS:free≠ []:=fun h=>by have:=I.sum;rw[h]at this;simp at this;omega
 obtain⟨fr,q,rfl⟩:∃fr q,free=fr++[q]:=by
  rcases wo' free with h|⟨l,x,h⟩
  ·exact absurd h aS
  ·exact⟨l,x,by rw[h,wp']⟩
 have bO:q < 24:=I.lt q (by simp);have bw:=xa' hs aQ aR I.places hi ax ay;have aT:=hs.dead;clear aQ aR hs;have c0:w.cell? ⟨p,0,none⟩=some (D' c.s):=by rw[y' z.ks.blk,z.ks.a0]
 have az:=aL' z.stt;rw[aT]at az;have aU:=m' az;have hst:Qb.isStr (i:Int)=true:=by simp[Qb.isStr];omega
 have aA:=bC' (i:Int) w;rw[hst]at aA;have aV:=m' aA;obtain⟨bP,cap,J,_,_,aB⟩:=z.ks.fr.shape;have aW:(fr++[q]).length=fr.length+1:=by simp
 rw[aW]at J aB;obtain⟨aX,aY,rfl,aZ⟩:=aB (by omega);have ba:w.cell? ⟨p,22,none⟩=some (.slice (some ⟨aX,aY,none⟩) (fr.length+1) cap):=by rw[y' z.ks.blk,z.ks.af,J]
 have bb:w.cell? ⟨aX,aY+fr.length,none⟩=some (.int .i64 q):=by rw[aZ fr.length (by omega)];simp[J']
 have bz:fr.length+1<=24:=by have:=I.sum;simp at this;omega
 obtain⟨m,G⟩:=exq (fr.length);rw[<-G]at ba bb bz J;have bQ:IntKind.i64.wrap (((m+1:Nat):Int) - 1)=(m:Int):=by rw[z36];omega
 have bR:IntKind.i64.wrap ((m:Int)+1 - 1)=(m:Int):=by rw[z36];omega
 have bS:IntKind.i64.wrap (m:Int)=(m:Int):=by rw[z36];omega
 have bT:(0:Int)<=(m:Int):=by omega
 have bU:(m:Int) < ((m+1:Nat):Int):=by omega
 have bV:(m:Int) < (m:Int)+1:=by omega
 have bW:(((m+1:Nat):Int) ==0)=false:=by simp;omega
 have bX:((m:Int)+1==0)=false:=by simp;omega
 obtain⟨aC,M⟩:=exq ((a.fl i).base+(a.fl i).kept.length);have aD:=fun n=>gR' (z.below (z41 (z11 _ _) n)) I hi (I.bs i hi);rw[<-M]at aD ay;have bc:=fun n=>m' (aD n);have bd:IntKind.i64.wrap ((aC:Int)+1)=((aC+1:Nat):Int):=by rw[z36];omega
 obtain⟨aa,O⟩:=exq (aC+1);rw[<-O]at bd;obtain⟨h0,Q⟩:=bw;rw[<-M,<-O]at h0 Q;have bA:s.data.toList.length=s.size:=by simp
 have V:=mK' (st:=st) q i aa s.data.toList (by omega) (by rw[z.len];omega);rw[z.len]at V;have aE:=fun y (ab:Below w.heap.size w y)=>fl' y c.s c.dp st c.dlv c.duv (z.below ab).stt q i aa s (by rw[z.len];omega) (by omega) (by omega) ax;have ac:(st.Qz q i aa s.data.toList).2.Qe=st.Qe:=rfl;obtain⟨st2,aF⟩:=exq ((st.Qz q i aa s.data.toList).2);rw[<-aF]at Q V ac;rw[h0,<-aF]at aE;have be:=fun y ab=>m' (aE y ab);have bY:¬ (20:Int) < (s.size:Int):=by omega
 have bZ:(0:Int)<=(i:Int):=by omega
 have ca:(i:Int) < 3:=by omega
 have aG:=m' (z12 Q (z12 V (z12 ac (z12 G (z12 M (z12 O J))))));have ao:=m' I;have bB:=m' z;have bC:=z14 z.ks.blk;have bf:=fun y=>m' (oG' s y (by omega));clear z I az aA hst aE Q V ac G M O J aD h0 aF aB aZ bA aW aS bu ay ax aT;unfold D' at *;go_enter func52,ntmps52;go_upto_region 9 with (first|(go_at_call 86;refine(d' aU).mono ?_;rintro r y ⟨rfl,aH⟩;obtain rfl:w=y:=aH.symm)|(go_at_call 87;refine(d' aV).mono ?_;rintro r y ⟨rfl,aH⟩;obtain rfl:w=y:=aH.symm));go_quiet (first|(go_at_call 88;exact Calls.quiet_of (d' (bc _))));go_upto_region 10 with fail;refine G' (fun x=>Below w.heap.size w x) (z41 (z11 _ _) _) ?_;clear bb aU aV bc bd;intro x ap;have d0:=(ap.cell (p:=⟨p,0,none⟩) bC).trans c0;have bg:=m' ap;have bh:=m' (d' (be x ap));clear ap c0 ba be;go_upto_region 13 with (go_at_call 89;refine(d' bh).mono ?_;rintro r y ⟨rfl,cb,k1,k2,k3⟩);obtain⟨Q,V,ac,G,M,O,J⟩:=d' aG;have bi:=ih' ((d' bB).below (d' bg)) k1 k2 k3 V;have aq:=m' (bi.behind (d' bg));refine G' (fun F=>Ja w F p g a.Qf a.Qd a.fenced (fr++[q]) sh st2 c) (d' aq) ?_;clear k1 k2 k3 bi aq d0 bh Q V ac G M O J;rintro F ⟨c1,Y,bj,bk,t1,t2⟩;obtain⟨cc,ad,aj,bD,_,bl⟩:=Y.ks.fr.shape;obtain⟨ah,ai,rfl,_⟩:=bl (by simp);have G:=(d' aG).2.2.2.1;have aI:(fr++[q]).length=m+1:=by simp[G]
 rw[aI]at aj bD;have cd:m<=ad:=by omega
 have d22:F.cell? ⟨p,22,none⟩=some (.slice (some ⟨ah,ai,none⟩) (m+1) ad):=by rw[y' Y.ks.blk,Y.ks.af,aj]
 have bm:F.frozen? ⟨p,22,none⟩=false:=H' (i:=22) Y.ks.blk;have aJ:=z14 Y.ks.blk;have aK:Qi F 3 1 (.slice (some ⟨ah,ai,none⟩) m ad) fr.length (J' fr):=by
  have h:=Y.ks.fr;rw[aI,aj]at h;have h2:=h.init;rw[<-G];have:(J' (fr++[q])).take m=J' fr:=by rw[G];simp[J']
  rw[this]at h2;exact h2
 have aL:=fun bn (aM:Below F.heap.size F bn)=>m' (eA' (bj.trans (C' (E:=fun _=>False) aM) (fun _ _ h=>h.elim)) bk t1 t2 (jI' (free2:=fr) (x:=bn) (v:= .slice (some ⟨ah,ai,none⟩) m ad) (Y.below aM) (Far.refl _ _) (by rw[G];rw[G]at aK;exact aK.far (C' (E:=fun _=>False) aM) (fun _ _ h=>h)) (.inr (.inl (by rw[aj];rfl)))));clear Y bj bk t1 t2 bl aK aj aI G;refine ab'
  [Ep p 0,Ep p 0,Ep p 0,Ep p 22,Ev (.slice (some ⟨ah,ai,none⟩) (m+1) ad),Ep p 0,Ep p 0,Ep p 22,Ev (.slice (some ⟨ah,ai,none⟩) (m+1) ad),
   Ei ((m+1:Nat):Int),Ei m,Ev (.slice (some ⟨ah,ai,none⟩) m ad),Ep p 0,Ep p 22,Et]
  [[0],[0],[2061],[3062],[4063],[0],[6065],[7066],[8067],[9068],[10069],[5064,11070],[1060],[13072],[14073,12071]] [61,62,63,64,65,66,67,68,69,70,71,72,73,74,0] [60,14,12]
  14 _ rfl rfl ?_ ?_
 ·refine⟨?_,?_,?_,?_,?_,?_,?_,?_,?_,?_,?_,?_,?_,?_,trivial⟩;all_goals
   intro a' y hb aN;have bo:=(hb.cell (p:=⟨p,22,none⟩) aJ).trans d22;clear hb aL;simp[I']at aN;go_simp;try exact⟨_,rfl,z11 _ _,rfl⟩
   try exact z11 _ _
   try exact⟨z11 _ _,by simp⟩
 ·intro f y Z H;simp only[ag',List.take]at H;have bE:=H.2.2.2.2.2.2.2.2.2.2.2.1;have bF:=H.2.2.2.2.2.2.2.2.2.2.2.2.2.1;clear H;have bp:=m' (d' (aL y Z));have bo:=(Z.cell (p:=⟨p,22,none⟩) aJ).trans d22;have bG:y.frozen? ⟨p,22,none⟩=false:=(Z.frozen (p:=⟨p,22,none⟩) aJ).trans bm;clear Z aL d22 bm;simp only[O',bE,bF];go_simp;go_upto_region 14 with fail;refine G' (fun F=>Ja w F p g a.Qf a.Qd a.fenced fr sh st2 c) (d' bp) ?_;clear bp bo bG;rintro z3 ⟨c3,ak,au,av,t1,t2⟩;have bH:=(d' ao).small hi;have bq:(sh (i * 3)).length < 1000:=by rw[(d' ao).kp i hi,dU' _ _ _ ((d' ao).pn i hi)];omega
  have aO:=fun y (ab:Below z3.heap.size z3 y)=>ql' ((ak.below ab).shAt (i:=i * 3) (by omega)) bq aa s q;simp only[cN',show 4+i * 3 * 2=4+i * 6 by omega]at aO;have aP:=fun y ab=>m' (aO y ab);have bI:=m' (z12 ak (z12 au (z12 av (z12 t1 t2))));clear ak au av t1 t2 aO bH bq;refine ab'
   [Ep p 0,Ei i,Ep p 0,Ep p 4,Ep p (4+i * 6),Ep p (4+i * 6),Ei aa,Ev (.string s),Ev (.string s),Ei q,Ev (.agg #[.string s, .int .i64 q]),Et]
   [[0],[1],[1074],[3076],[4077,2075],[5078],[7],[2],[8081],[8],[9082,10083],[6079,7080,11084]] [75,76,77,78,79,80,81,82,83,84,85,86] [74,12]
   11 _ rfl rfl ?_ ?_
  ·refine⟨?_,?_,?_,?_,?_,?_,?_,?_,?_,?_,?_,trivial⟩;all_goals
    intro a' y hb aN;clear hb aP;simp[I']at aN;go_simp;try exact⟨_,rfl,z11 _ _,rfl⟩
    try exact z11 _ _
    try exact⟨z11 _ _,by simp⟩
   all_goals first
    |(refine(d' (bf _)).mono ?_;rintro r F ⟨rfl,hb⟩;exact⟨rfl,hb⟩)
    |(refine(d' (bf _)).mono ?_;rintro r F ⟨rfl,hb⟩;exact⟨_,rfl,hb,rfl⟩)
    |skip
  ·intro f2 y Z H;simp only[ag',List.take]at H;have bJ:=H.2.2.2.2.2.1;have bK:=H.2.2.2.2.2.2.1;have bL:=H.2.2.2.2.2.2.2.2.2.2.1;clear H;have bM:=m' (d' (aP y Z));have br:=m' Z;clear Z aP;simp only[O',bJ,bK,bL];go_simp;refine(d' bM).mono ?_;rintro r u ⟨rfl,hst⟩;have aq:=m' hst;clear hst;go_wp2;go_ret;refine⟨rfl,?_⟩;obtain⟨Q,V,ac,G,M,O,J⟩:=d' aG;obtain⟨ak,au,av,t1,t2⟩:=d' bI;have hst:=d' aq;have bN:cq' y u p (4+i * 3 * 2) 151 c3.arr (c3.nv (i * 3)) (c3.mv (i * 3)) (br' (sh (i * 3)) aa (cN' s q)):=by rw[show 4+i * 3 * 2=4+i * 6 by omega];exact hst
   have h1:=eA' au av t1 t2 ((cS' (ak.below (d' br)) (by omega) bN).behind (d' br));have bt:=qC' (d' ao) hi s;rw[<-M,<-O,<-ac]at bt;exact⟨g,fr,_,_,st2,h1,Q,bt⟩
end
theorem lF':(prog.info? 201).map (·.size)=some 2:=by kernel_rfl
theorem eo' (S:List UInt8) (F:S.length=64) (g:Nat) (t:TypeId) (w:World) (h:w.heap[g]? =some (.cells (bv S).toArray t (0,0))) (i n cap:Nat) (hi:i+4<=64) (hn:4<=n):
  Calls prog 95 #[.slice (some ⟨g,i,none⟩) n cap] w fun e w'=>e= .returned (.int .u32 (Qb.Qg S i))/\Below w.heap.size w w':=by
 have z:∀j,j < 64->w.cell? ⟨g,j,none⟩=some (.int .u8 (S.getD j 0).toNat):=fun j hj=>by rw[y' h,tI' (by omega)]
 refine(dL' g i n cap (S.getD i 0) (S.getD (i+1) 0) (S.getD (i+2) 0) (S.getD (i+3) 0) w hn (z _ (by omega)) (z _ (by omega)) (z _ (by omega)) (z _ (by omega))).mono ?_;rintro r y ⟨rfl,k,rfl⟩;exact⟨rfl,z41 (z11 _ _) k⟩
theorem dt' (S:List UInt8) (i:Nat):((Qb.Qg S i).toNat:Int)=Qb.Qg S i:=by have:=Qb.Jk S i;omega
theorem xb' (S:List UInt8):(Mq.Vc S:Int)=Qb.Qg S 4+Qb.Qg S 8 * 4294967296:=by
 unfold Mq.Vc;have:=dt' S 4;have:=dt' S 8;omega
theorem Aq' (S:List UInt8):bits BinOp.or IntKind.u64 (Qb.Qg S 4) (Qb.Qg S 8 * 4294967296)=(Mq.Vc S:Int):=by
 have h1:=Qb.Jk S 4;have h2:=Qb.Jk S 8;rw[u64_or32 _ _ h1.1 h1.2 (by omega) (by omega) (by omega),xb']
theorem jL' (S:List UInt8) (I:S.length=64) (w:World):
  Calls prog 219 #[.agg (bv S).toArray] w fun r w'=>r= .returned (.agg #[.int .u32 (Mq.Xw S), .int .u64 (Mq.Vc S)])/\Below w.heap.size w w':=by
 have V:=fun(y:World) (h:y.heap[w.heap.size]? =some (.cells (bv S).toArray 207 (0,0)))=>m' (eo' S I w.heap.size _ y h 0 64 64 (by omega) (by omega));have Y:=fun(y:World) (h:y.heap[w.heap.size]? =some (.cells (bv S).toArray 207 (0,0)))=>m' (eo' S I w.heap.size _ y h 4 60 60 (by omega) (by omega));have Z:=fun(y:World) (h:y.heap[w.heap.size]? =some (.cells (bv S).toArray 207 (0,0)))=>m' (eo' S I w.heap.size _ y h 8 56 56 (by omega) (by omega));have J:=m' (Aq' S);have aa:Hid ((Mq.Xw S:Int)=Qb.Qg S 0):=dt' S 0;obtain⟨ct,ab⟩:=exq (Mq.Vc S);obtain⟨on,ac⟩:=exq (Mq.Xw S);rw[<-ab]at J ⊢;rw[<-ac]at aa ⊢;clear ab ac;have ak:=Qb.Jk S 4;have b2:=Qb.Jk S 8;obtain⟨aD,aE⟩:=ak;obtain⟨aF,aG⟩:=b2;go_enter func219,ntmps219;go_upto_region 1 with fail;refine G' (fun x=>x.heap[w.heap.size]? =some (.cells (bv S).toArray 207 (0,0))/\x.heap[w.heap.size+1]? =some (.cells #[.int .u32 0, .int .u64 0] 201 (0,0))/\Below w.heap.size w x) (cL' _ _ _) ?_;rintro x ⟨h0,h1,ad⟩;have ao:=z14 h1;have ap:=m' h0;have aq:=m' h1;have ah:=m' ad;clear h0 h1 ad;generalize aH:Qb.Qg S 0=n0 at *;generalize aI:Qb.Qg S 4=G at *;generalize aJ:Qb.Qg S 8=F at *;have aK:IntKind.u64.wrap G=G:=by rw[wA'];omega
 have aL:IntKind.u64.wrap F=F:=by rw[wA'];omega
 have aM:IntKind.u64.wrap (F * 4294967296)=F * 4294967296:=by rw[wA'];omega
 refine ab'
  [Ev (.slice (some ⟨w.heap.size,0,none⟩) 64 64),Ev (.int .u32 n0),Ev (.slice (some ⟨w.heap.size,4,none⟩) 60 60),Ev (.int .u32 G),Ev (.int .u64 G),
   Ev (.slice (some ⟨w.heap.size,8,none⟩) 56 56),Ev (.int .u32 F),Ev (.int .u64 F),Ev (.int .u64 (F * 4294967296)),Ev (.int .u64 ct),Ev (.agg #[.int .u32 n0, .int .u64 ct]),Et]
  [[1],[1003],[1],[3005],[4006],[1],[6008],[7009],[8010],[5007,9011],[2004,10012],[2,11013]] [4,5,6,7,8,9,10,11,12,13,14,0] [3,11]
  11 _ rfl rfl ?_ ?_
 ·refine⟨?_,?_,?_,?_,?_,?_,?_,?_,?_,?_,?_,trivial⟩;all_goals
   intro a y hb au;have H:=(hb.block _ (by omega:w.heap.size < x.heap.size)).trans (d' ap);have av:=V y H;have ax:=Y y H;have ay:=Z y H;clear hb H V Y Z;simp[I']at au
  ·go_simp;first|exact z11 _ _|exact⟨_,rfl,z11 _ _,rfl⟩
  ·go_simp;refine(d' av).mono ?_;rintro r w1 ⟨rfl,z⟩;first|exact z|exact⟨rfl,z⟩|exact⟨_,rfl,z,rfl⟩
  ·go_simp;first|exact z11 _ _|exact⟨_,rfl,z11 _ _,rfl⟩
  ·go_simp;refine(d' ax).mono ?_;rintro r w1 ⟨rfl,z⟩;first|exact z|exact⟨rfl,z⟩|exact⟨_,rfl,z,rfl⟩
  ·go_simp;first|exact z11 _ _|exact⟨_,rfl,z11 _ _,rfl⟩
  ·go_simp;first|exact z11 _ _|exact⟨_,rfl,z11 _ _,rfl⟩
  ·go_simp;refine(d' ay).mono ?_;rintro r w1 ⟨rfl,z⟩;first|exact z|exact⟨rfl,z⟩|exact⟨_,rfl,z,rfl⟩
  ·go_simp;first|exact z11 _ _|exact⟨_,rfl,z11 _ _,rfl⟩
  ·go_simp;first|exact z11 _ _|exact⟨_,rfl,z11 _ _,rfl⟩
  ·go_simp;first|exact⟨by rw[d' J],z11 _ _⟩|exact⟨_,rfl,z11 _ _,by rw[<-d' J]⟩
  ·go_simp;first|exact z11 _ _|exact⟨_,rfl,z11 _ _,rfl⟩
 ·intro f y M O;simp only[ag',List.take]at O;have az:=O.2.2.2.2.2.2.2.2.2.2.1;have Q:=(M.block _ ao).trans (d' aq);have ai:=m' ((d' ah).trans (M.mono (d' ah).size));clear O M;simp only[O',az];refine iH' 201 (.tmp 2) (.tmp 13) rfl (w.heap.size+1) #[.int .u32 n0, .int .u64 ct] (by simp[Act.eval]) (by simp[Act.eval]) 201 _ Q (by rw[lF'];rfl) (by simp) (by rw[z49];intro u hu;simp at hu;rcases hu with rfl|rfl <;> rfl) ?_;have aj:=z92 y (w.heap.size+1) _ #[.int .u32 n0, .int .u64 ct] 201 (0,0) Q;have aA:=m' (bp' y (w.heap.size+1) #[.int .u32 n0, .int .u64 ct]);generalize y.setRow (w.heap.size+1) #[.int .u32 n0, .int .u64 ct]=aN at *;obtain⟨aB,aC⟩:=eE' aj;clear aj Q;go_simp;go_wp2;refine z50 (v:= .agg #[.int .u32 n0, .int .u64 ct]) (by simp[results,results219,go_sem,aB,aC]) rfl ⟨by rw[d' aa],?_⟩;exact(d' ai).trans ((d' aA).below (d' ai).size (fun k hk e=>by omega))
theorem jM' (o c:Nat) (w:World):Calls prog 220 #[.agg #[.int .u32 o, .int .u64 c]] w fun r w'=>r= .returned (.bool (Mq.Qo o))/\Below w.heap.size w w':=by
 by_cases h1:(1:Int)<=(o:Int)
 ·by_cases h2:(o:Int)<=1073741824
  ·go_enter func220,ntmps220;go_wp2;go_ret;exact⟨aR' (by simp[Mq.Qo];omega),(z11 _ _).alloc (z13 _) _⟩
  ·go_enter func220,ntmps220;go_wp2;go_ret;exact⟨aR' (by simp[Mq.Qo];omega),(z11 _ _).alloc (z13 _) _⟩
 ·go_enter func220,ntmps220;go_wp2;go_ret;exact⟨aR' (by simp[Mq.Qo];omega),(z11 _ _).alloc (z13 _) _⟩
def gD' (h:Mq.Hd):Value:= .agg #[.int .u32 h.o, .int .u64 h.c, .int .i64 h.a, .int .i64 h.b, .int .i64 h.d]
def hdK (o c a b d k:Nat):Array Value:= #[.int .u32 o, .int .u64 c, .int .i64 (if 0 < k then a else 0:Nat), .int .i64 (if 1 < k then b else 0:Nat), .int .i64 (if 2 < k then d else 0:Nat)]
theorem ce':Mq.Xz=bd':=rfl
theorem mO' (S:List UInt8) (aB:S.length=64) (aL:S≠bd') (w:World):Calls prog 194 #[.agg (bv S).toArray] w fun r w'=>
  ∃h:Mq.Hd,r= .returned (.tuple #[gD' h, .bool (Mq.Jz S)])/\(Mq.Jz S=true->h=Mq.Yw S)/\Below w.heap.size w w':=by
 have aQ:=fun y=>iJ' (S:=S) (T:=bd') aB aA' y;rw[z52 aL]at aQ;have aC:Mq.Jz S=((Mq.Yw S).small&& (Mq.Qo (Mq.Xw S) &&decide (Mq.Zf (Mq.Yw S)=S))):=by unfold Mq.Jz;rw[ce',z52 aL,yg']
 have aJ:=fun(i n cap:Nat) (hi:i+4<=64) (hn:4<=n) (y:World) (h:y.heap[w.heap.size]? =some (.cells (bv S).toArray 207 (0,0)))=>eo' S aB w.heap.size _ y h i n cap hi hn;have ak:=fun y h=>m' (aJ 12 52 52 (by omega) (by omega) y h);have ao:=fun y h=>m' (aJ 16 48 48 (by omega) (by omega) y h);have ap:=fun y h=>m' (aJ 20 44 44 (by omega) (by omega) y h);rw[<-dt' S 12]at ak;rw[<-dt' S 16]at ao;rw[<-dt' S 20]at ap;have bf:=Qb.Jk S 12;have bg:=Qb.Jk S 16;have b2:=Qb.Jk S 20;have aR:=fun y=>m' (jL' S aB y);have aS:=Mq.opOf_lt S;have aT:=Mq.ctOf_lt S;have az:=fun y=>m' (jM' (Mq.Xw S) (Mq.Vc S) y);have aU:=fun y=>m' (hT' (Mq.Xw S) (Mq.Vc S) (Qb.Qg S 12).toNat (Qb.Qg S 16).toNat (Qb.Qg S 20).toNat y aS aT (by omega) (by omega) (by omega));have aV:=Mq.Zb (Mq.Yw S);have aq:=fun y=>iJ' (S:=Mq.Zf (Mq.Yw S)) (T:=S) aV aB y;have aM:Mq.Yw S=⟨Mq.Xw S,Mq.Vc S,(Qb.Qg S 12).toNat,(Qb.Qg S 16).toNat,(Qb.Qg S 20).toNat⟩:=rfl;have aW:(Mq.Yw S).small=(decide ((Qb.Qg S 12).toNat<=2147483647) && (decide ((Qb.Qg S 16).toNat<=2147483647) &&decide ((Qb.Qg S 20).toNat<=2147483647))):=rfl;rw[aW]at aC;have O:∀y,Hid (Calls prog 198 #[gD' (Mq.Yw S)] y fun r w'=>r= .returned (.agg (bv (Mq.Zf (Mq.Yw S))).toArray)/\Below y.heap.size y w'):=aU;rw[aM]at O aq ⊢;unfold gD' at O;simp only at O;have bo:(Qb.Qg S 12).toNat < 4294967296:=by omega
 have hb:(Qb.Qg S 16).toNat < 4294967296:=by omega
 have hd:(Qb.Qg S 20).toNat < 4294967296:=by omega
 rw[aM]at aC;clear aU aJ aM aW bf bg b2 aV;generalize (Qb.Qg S 12).toNat=a at *;generalize (Qb.Qg S 16).toNat=b at *;generalize (Qb.Qg S 20).toNat=d at *;generalize Mq.Xw S=o at *;generalize Mq.Vc S=c at *;obtain⟨T,aX⟩:=exq (Mq.Zf ⟨o,c,a,b,d⟩);rw[<-aX]at O aq aC;clear aX;obtain⟨ok,aY⟩:=exq (Mq.Jz S);rw[<-aY]at aC ⊢;clear aY;have Y:=m' aC;clear aC aL aS aT;go_enter func194,ntmps194;go_upto_region 1 with fail;refine G' (fun x=>x.heap[w.heap.size]? =some (.cells (bv S).toArray 207 (0,0))/\x.heap[w.heap.size+1]? =some (.cells #[.int .u32 0, .int .u64 0, .int .i64 0, .int .i64 0, .int .i64 0] 217 (0,0))/\Below w.heap.size w x) (cL' _ _ _) ?_;rintro x ⟨h0,h1,I⟩;have aD:=m' h0;have aE:=m' h1;have aF:=m' I;clear h0 h1 I;go_upto_region 4 with (first
  |(refine cf' rfl (.tmp 1) rfl w.heap.size rfl 207 S aB (d' aD) ?_)
  |(refine ck' rfl rfl ?_;go_simp)
  |(go_at_call 219;refine(d' (aR _)).mono ?_;rintro r y ⟨rfl,z⟩))
 have bh:=z.size;obtain⟨G,aN⟩:=exq (y.heap.size);rw[<-aN];have bp:w.heap.size+1 < G:=by have:=z14 (d' aE);omega
 refine G' (fun x=>x.heap[w.heap.size]? =some (.cells (bv S).toArray 207 (0,0))/\x.heap[w.heap.size+1]? =some (.cells #[.int .u32 0, .int .u64 0, .int .i64 0, .int .i64 0, .int .i64 0] 217 (0,0))/\x.heap[G]? =some (.cells (hdK o c a b d 0) 217 (0,0))/\Below w.heap.size w x) ?_ ?_
 ·have bi:=z14 (d' aD);have aO:=z14 (d' aE);refine⟨(hao _ _ (by omega)).trans ((z.block _ bi).trans (d' aD)),(hao _ _ (by omega)).trans ((z.block _ aO).trans (d' aE)),by rw[aN];exact z19 _ _,((d' aF).trans (z.mono (d' aF).size)).alloc (by omega) _⟩
 clear z bh aN aD aE aF aQ aR x;rintro x ⟨h0,h1,h4,I⟩;have aZ:=m' (z12 h0 (z12 h1 (z12 h4 I)));clear h0 h1 h4 I y;go_wp2;go_loopw[5,6,14] (fun _ _ i wr=>∃k:Nat,k<=3/\i= .int .i64 k/\(wr.heap[w.heap.size]? =some (.cells (bv S).toArray 207 (0,0))/\wr.heap[w.heap.size+1]? =some (.cells #[.int .u32 0, .int .u64 0, .int .i64 0, .int .i64 0, .int .i64 0] 217 (0,0))/\wr.heap[G]? =some (.cells (hdK o c a b d k) 217 (0,0))/\Below w.heap.size w wr)/\(0 < k->a<=2147483647)/\(1 < k->b<=2147483647)/\(2 < k->d<=2147483647)) (fun _ _ i _=>3 - (intOf i).toNat)
 case atStart=>exact⟨0,by omega,rfl,d' aZ,by omega,by omega,by omega⟩
 case round=>
  obtain⟨k,hk,rfl,⟨h0,h1,h4,I⟩,k0,k1,k2⟩:=hrel;clear aZ;have aK:=z14 h4;have f0:∀i,wr.frozen? ⟨G,i,none⟩=false:=fun i=>H' h4;have Z:∀i,wr.frozen? ⟨w.heap.size+1,i,none⟩=false:=fun i=>H' h1;have aO:=z14 h1;have aa:∀ (n:Nat) (y:World),2147483647 < n->Below wr.heap.size wr y->Hid (y.heap[w.heap.size+1]? =some (.cells #[.int .u32 0, .int .u64 0, .int .i64 0, .int .i64 0, .int .i64 0] 217 (0,0))/\Below w.heap.size w y):=fun n y _ hb=>⟨(hb.block _ aO).trans h1,I.trans (hb.mono I.size)⟩;have ab:∀ (v:Value) (j:Nat) (y:World),wr.heap[G]? =some (.cells (hdK o c a b d j) 217 (0,0))->(hdK o c a b d j).setIfInBounds (2+j) v=hdK o c a b d (j+1)->Below wr.heap.size wr y->
    (y.setCell ⟨G,2+j,none⟩ v).heap[w.heap.size]? =some (.cells (bv S).toArray 207 (0,0))/\(y.setCell ⟨G,2+j,none⟩ v).heap[w.heap.size+1]? =some (.cells #[.int .u32 0, .int .u64 0, .int .i64 0, .int .i64 0, .int .i64 0] 217 (0,0))/\(y.setCell ⟨G,2+j,none⟩ v).heap[G]? =some (.cells (hdK o c a b d (j+1)) 217 (0,0))/\Below w.heap.size w (y.setCell ⟨G,2+j,none⟩ v):=by
   intro v j y h4 bj hb;have hs:=Q' y G (2+j) v;refine⟨hs.blk ((hb.block _ (by omega)).trans h0) (by omega),hs.blk ((hb.block _ (by omega)).trans h1) (by omega),?_,(I.trans (hb.mono I.size)).setCell (by show w.heap.size<=G;omega) _⟩;rw[<-bj];exact aa' ((hb.block _ aK).trans h4)
  obtain rfl|rfl|rfl|rfl:k=0\/k=1\/k=2\/k=3:=by omega
  ·have hn:=m' (d' (ak wr h0));by_cases ba:(2147483647:Int) < (a:Int)
   ·have au:=fun y hb=>aa a y (by omega) hb;have av:=Y;clear h0 h4 I f0 ak ao ap aa ab h1 Z az O aq Y k0 k1 k2;go_upto_region 8 with (go_at_call 95;refine(d' hn).mono ?_;rintro r y ⟨rfl,z⟩);obtain⟨Q,ax⟩:=d' (au y z);have aG:=m' ax;obtain⟨ac,ad,ah,ai,aj⟩:=dK' Q;have Z:∀i,y.frozen? ⟨w.heap.size+1,i,none⟩=false:=fun i=>H' Q;simp at ac ad ah ai aj;clear z au Q ax hn;go_wp2;refine z50 (v:= .tuple #[.agg #[.int .u32 0, .int .u64 0, .int .i64 0, .int .i64 0, .int .i64 0], .bool false]) (by simp[results,results194,go_sem,ac,ad,ah,ai,aj]) rfl ⟨⟨0,0,0,0,0⟩,?_,fun h=>?_,?_⟩
    ·have:ok=false:=(by rw[d' av,z52 (show ¬a<=2147483647 by omega)];simp);rw[this];rfl
    ·have:ok=false:=(by rw[d' av,z52 (show ¬a<=2147483647 by omega)];simp);rw[this]at h;cases h
    ·exact(((((d' aG).setCell (p:=⟨w.heap.size+1,0,none⟩) (by simp) _).setCell (p:=⟨w.heap.size+1,1,none⟩) (by simp) _).setCell (p:=⟨w.heap.size+1,2,none⟩) (by simp) _).setCell (p:=⟨w.heap.size+1,3,none⟩) (by simp) _).setCell (p:=⟨w.heap.size+1,4,none⟩) (by simp) _
   ·have ay:=fun y hb=>m' (ab (.int .i64 a) 0 y h4 rfl hb);have J:=m' (z12 k0 (z12 k1 k2));have bb:IntKind.i64.wrap (a:Int)=(a:Int):=(by rw[z36];omega);clear h0 h1 I Z ak ao ap aa ab az O aq Y k0 k1 k2 f0;go_upto_region 8 with (go_at_call 95;refine(d' hn).mono ?_;rintro r y ⟨rfl,z⟩);have V:=(z.block _ aK).trans h4;have f4:∀i,y.frozen? ⟨G,i,none⟩=false:=fun i=>H' V;have bc:y.cell? ⟨G,2,none⟩=some (.int .i64 0):=(by rw[y' V];rfl);have aH:=m' (d' (ay y z));clear h4 z V ay hn;go_wp2;go_roundw
    case rel=>exact⟨1,by omega,rfl,d' aH,by first|omega|(intro _;exact(d' J).1 (by omega)),by first|omega|(intro _;exact(d' J).2.1 (by omega)),by first|omega|(intro _;exact(d' J).2.2 (by omega))⟩
    case measure=>simp[intOf]
  ·have hn:=m' (d' (ao wr h0));by_cases ba:(2147483647:Int) < (b:Int)
   ·have au:=fun y hb=>aa b y (by omega) hb;have av:=Y;clear h0 h4 I f0 ak ao ap aa ab h1 Z az O aq Y k0 k1 k2;go_upto_region 8 with (go_at_call 95;refine(d' hn).mono ?_;rintro r y ⟨rfl,z⟩);obtain⟨Q,ax⟩:=d' (au y z);have aG:=m' ax;obtain⟨ac,ad,ah,ai,aj⟩:=dK' Q;have Z:∀i,y.frozen? ⟨w.heap.size+1,i,none⟩=false:=fun i=>H' Q;simp at ac ad ah ai aj;clear z au Q ax hn;go_wp2;refine z50 (v:= .tuple #[.agg #[.int .u32 0, .int .u64 0, .int .i64 0, .int .i64 0, .int .i64 0], .bool false]) (by simp[results,results194,go_sem,ac,ad,ah,ai,aj]) rfl ⟨⟨0,0,0,0,0⟩,?_,fun h=>?_,?_⟩
    ·have:ok=false:=(by rw[d' av,z52 (show ¬b<=2147483647 by omega)];simp);rw[this];rfl
    ·have:ok=false:=(by rw[d' av,z52 (show ¬b<=2147483647 by omega)];simp);rw[this]at h;cases h
    ·exact(((((d' aG).setCell (p:=⟨w.heap.size+1,0,none⟩) (by simp) _).setCell (p:=⟨w.heap.size+1,1,none⟩) (by simp) _).setCell (p:=⟨w.heap.size+1,2,none⟩) (by simp) _).setCell (p:=⟨w.heap.size+1,3,none⟩) (by simp) _).setCell (p:=⟨w.heap.size+1,4,none⟩) (by simp) _
   ·have ay:=fun y hb=>m' (ab (.int .i64 b) 1 y h4 rfl hb);have J:=m' (z12 k0 (z12 k1 k2));have bb:IntKind.i64.wrap (b:Int)=(b:Int):=(by rw[z36];omega);clear h0 h1 I Z ak ao ap aa ab az O aq Y k0 k1 k2 f0;go_upto_region 8 with (go_at_call 95;refine(d' hn).mono ?_;rintro r y ⟨rfl,z⟩);have V:=(z.block _ aK).trans h4;have f4:∀i,y.frozen? ⟨G,i,none⟩=false:=fun i=>H' V;have bc:y.cell? ⟨G,3,none⟩=some (.int .i64 0):=(by rw[y' V];rfl);have aH:=m' (d' (ay y z));clear h4 z V ay hn;go_wp2;go_roundw
    case rel=>exact⟨2,by omega,rfl,d' aH,by first|omega|(intro _;exact(d' J).1 (by omega)),by first|omega|(intro _;exact(d' J).2.1 (by omega)),by first|omega|(intro _;exact(d' J).2.2 (by omega))⟩
    case measure=>simp[intOf]
  ·have hn:=m' (d' (ap wr h0));by_cases ba:(2147483647:Int) < (d:Int)
   ·have au:=fun y hb=>aa d y (by omega) hb;have av:=Y;clear h0 h4 I f0 ak ao ap aa ab h1 Z az O aq Y k0 k1 k2;go_upto_region 8 with (go_at_call 95;refine(d' hn).mono ?_;rintro r y ⟨rfl,z⟩);obtain⟨Q,ax⟩:=d' (au y z);have aG:=m' ax;obtain⟨ac,ad,ah,ai,aj⟩:=dK' Q;have Z:∀i,y.frozen? ⟨w.heap.size+1,i,none⟩=false:=fun i=>H' Q;simp at ac ad ah ai aj;clear z au Q ax hn;go_wp2;refine z50 (v:= .tuple #[.agg #[.int .u32 0, .int .u64 0, .int .i64 0, .int .i64 0, .int .i64 0], .bool false]) (by simp[results,results194,go_sem,ac,ad,ah,ai,aj]) rfl ⟨⟨0,0,0,0,0⟩,?_,fun h=>?_,?_⟩
    ·have:ok=false:=(by rw[d' av,z52 (show ¬d<=2147483647 by omega)];simp);rw[this];rfl
    ·have:ok=false:=(by rw[d' av,z52 (show ¬d<=2147483647 by omega)];simp);rw[this]at h;cases h
    ·exact(((((d' aG).setCell (p:=⟨w.heap.size+1,0,none⟩) (by simp) _).setCell (p:=⟨w.heap.size+1,1,none⟩) (by simp) _).setCell (p:=⟨w.heap.size+1,2,none⟩) (by simp) _).setCell (p:=⟨w.heap.size+1,3,none⟩) (by simp) _).setCell (p:=⟨w.heap.size+1,4,none⟩) (by simp) _
   ·have ay:=fun y hb=>m' (ab (.int .i64 d) 2 y h4 rfl hb);have J:=m' (z12 k0 (z12 k1 k2));have bb:IntKind.i64.wrap (d:Int)=(d:Int):=(by rw[z36];omega);clear h0 h1 I Z ak ao ap aa ab az O aq Y k0 k1 k2 f0;go_upto_region 8 with (go_at_call 95;refine(d' hn).mono ?_;rintro r y ⟨rfl,z⟩);have V:=(z.block _ aK).trans h4;have f4:∀i,y.frozen? ⟨G,i,none⟩=false:=fun i=>H' V;have bc:y.cell? ⟨G,4,none⟩=some (.int .i64 0):=(by rw[y' V];rfl);have aH:=m' (d' (ay y z));clear h4 z V ay hn;go_wp2;go_roundw
    case rel=>exact⟨3,by omega,rfl,d' aH,by first|omega|(intro _;exact(d' J).1 (by omega)),by first|omega|(intro _;exact(d' J).2.1 (by omega)),by first|omega|(intro _;exact(d' J).2.2 (by omega))⟩
    case measure=>simp[intOf]
  ·have aD:=m' h0;have aE:=m' h1;have bk:Hid (wr.heap[G]? =some (.cells #[.int .u32 o, .int .u64 c, .int .i64 a, .int .i64 b, .int .i64 d] 217 (0,0))):=h4;have aF:=m' I;have J:=m' (z12 (k0 (by omega)) (z12 (k1 (by omega)) (k2 (by omega))));clear h0 h1 h4 I f0 Z ak ao ap aa ab k0 k1 k2;go_upto_region 12 with fail;have M:ok=(Mq.Qo o&&decide (T=S)):=(by rw[d' Y,z47 (d' J).1,z47 (d' J).2.1,z47 (d' J).2.2];simp only[Bool.true_and]);cases H:Mq.Qo o;all_goals
    rw[H]at M;simp only[Bool.true_and,Bool.false_and]at M;refine af'
     [Ev (.agg #[.int .u32 o, .int .u64 c, .int .i64 a, .int .i64 b, .int .i64 d]),Ep G 0,Ev (.agg #[.int .u32 o, .int .u64 c]),Eb (Mq.Qo o),Eb (Mq.Qo o),fun v _=>Mq.Qo o=true->v= .agg #[.int .u32 o, .int .u64 c, .int .i64 a, .int .i64 b, .int .i64 d],fun v _=>Mq.Qo o=true->v= .agg (bv T).toArray,fun v _=>Mq.Qo o=true->v= .agg (bv S).toArray,fun v _=>Mq.Qo o=true->v= .bool (decide (T=S)),Eb ok,fun _ aI=>aI.heap[w.heap.size+1]? =some (.cells #[.int .u32 o, .int .u64 c, .int .i64 a, .int .i64 b, .int .i64 d] 217 (0,0)),Eb ok]
     [[4],[4],[2032],[3033],[4034],[4,5035],[6036,5035],[1,5035],[7037,8038,5035],[5035,9039],[2,1031],[10040]] [32,33,34,35,36,37,38,39,40,41,0,4] [3,1,27,10]
     [(10,fun k=>k=w.heap.size+1)] ?_ ?_ (hst:=by repeat' (first|exact V' _|exact(fun _ _ _ h _=>h)|exact ca' _ _|exact trivial|apply z12)) (hstF:=by repeat' (first|exact trivial|exact .inl rfl|exact .inr (.inr (bj' _ _))|exact .inr (.inr (fun _ _ _ h _=>h))|apply z12))
    ·refine⟨?_,?_,?_,?_,?_,?_,?_,?_,?_,?_,?_,?_,trivial⟩;all_goals
      intro a' aI hb F;have z0:=hb.blk (d' aD) (ay' (by intro (e:w.heap.size=w.heap.size+1);omega));have z4:=hb.blk (d' bk) (ay' (by intro (e:G=w.heap.size+1);omega));obtain⟨bq,br,bt,bu,bw⟩:=dn' z4;have bl:=m' z0;clear z0 z4;simp[I',H]at F
     iterate 3
      ·clear hb;go_simp;first|exact Far.refl _ _|exact⟨_,rfl,Far.refl _ _,rfl⟩|exact⟨_,rfl,Far.refl _ _,by simp[H,M]⟩|simp[H,M,Far.refl]
     ·clear hb;go_simp;refine(d' (az aI)).mono ?_;rintro r w1 ⟨rfl,z⟩;exact⟨_,rfl,C' z,by first|rfl|(rw[H];rfl)⟩
     ·clear hb;go_simp;first|exact Far.refl _ _|exact⟨_,rfl,Far.refl _ _,rfl⟩|exact⟨_,rfl,Far.refl _ _,by simp[H,M]⟩|simp[H,M,Far.refl]
     ·clear hb;first
       |(have aA:a'.tmps[35]? =some (.bool false):=dR' (by first|exact F|exact F.2|exact F.2.2)
         go_simp;try simp[H])
       |(have aA:a'.tmps[35]? =some (.bool true):=dR' (by first|exact F|exact F.2|exact F.2.2)
         go_simp;first|exact Far.refl _ _|exact⟨_,rfl,Far.refl _ _,rfl⟩|exact⟨_,rfl,Far.refl _ _,by simp[H,M]⟩|simp[H,M,Far.refl])
     ·clear hb;first
       |(have aA:a'.tmps[35]? =some (.bool false):=dR' (by first|exact F|exact F.2|exact F.2.2)
         go_simp;try simp[H])
       |(have aA:a'.tmps[35]? =some (.bool true):=dR' (by first|exact F|exact F.2|exact F.2.2)
         go_simp;refine(d' (O aI)).mono ?_;rintro r w1 ⟨rfl,z⟩;exact⟨_,rfl,C' z,by first|rfl|exact fun _=>rfl⟩)
     ·clear hb;first
       |(have aA:a'.tmps[35]? =some (.bool false):=dR' (by first|exact F|exact F.2|exact F.2.2)
         go_simp;try simp[H])
       |(have aA:a'.tmps[35]? =some (.bool true):=dR' (by first|exact F|exact F.2|exact F.2.2)
         rw[if_pos (by go_simp)];exact cE' (.tmp 1) rfl w.heap.size (by simp[Act.eval,F]) 207 S aB (d' bl) ⟨_,rfl,Far.refl _ _,by first|rfl|exact fun _=>rfl⟩)
     ·clear hb;first
       |(have aA:a'.tmps[35]? =some (.bool false):=dR' (by first|exact F|exact F.2|exact F.2.2)
         go_simp;try simp[H])
       |(have aA:a'.tmps[35]? =some (.bool true):=dR' (by first|exact F|exact F.2|exact F.2.2)
         go_simp;first|exact Far.refl _ _|exact⟨_,rfl,Far.refl _ _,rfl⟩|exact⟨_,rfl,Far.refl _ _,by simp[H,M]⟩|simp[H,M,Far.refl])
     ·clear hb;go_simp;first|exact Far.refl _ _|exact⟨_,rfl,Far.refl _ _,rfl⟩|exact⟨_,rfl,Far.refl _ _,by simp[H,M]⟩|simp[H,M,Far.refl]
     ·have bd:=hb.blk (d' aE) bD';clear hb;rw[if_pos (by rfl)];refine iH' 217 (.tmp 2) (.tmp 31) rfl (w.heap.size+1) #[.int .u32 o, .int .u64 c, .int .i64 a, .int .i64 b, .int .i64 d] (by simp[Act.eval,F]) (by simp[Act.eval,F]) 217 _ bd (by rw[iN'];rfl) (by simp) (by rw[z49];intro u hu;simp at hu;rcases hu with rfl|rfl|rfl|rfl|rfl <;> rfl) ?_;exact⟨_,rfl,an' (.head _) (bp' _ _ _),z92 _ _ _ _ _ _ bd⟩
     ·clear hb;go_simp;first|exact Far.refl _ _|exact⟨_,rfl,Far.refl _ _,rfl⟩|exact⟨_,rfl,Far.refl _ _,by simp[H,M]⟩|simp[H,M,Far.refl]
    ·intro f aI hF aP;have be:=aP.2.2.2.2.2.2.2.2.2.2.1;have bm:=aP.2.2.2.2.2.2.2.2.2.2.2.1;obtain⟨ac,ad,ah,ai,aj⟩:=dn' be;have bn:=m' ((d' aF).trans ((dM' hF).below (d' aF).size (fun k hk (h:k=w.heap.size+1)=>by omega)));clear aP hF be M H;simp only[O',bm];go_simp;go_wp2;exact z50 (v:= .tuple #[.agg #[.int .u32 o, .int .u64 c, .int .i64 a, .int .i64 b, .int .i64 d], .bool ok]) (by simp[results,results194,go_sem,ac,ad,ah,ai,aj]) rfl ⟨⟨o,c,a,b,d⟩,rfl,fun _=>rfl,d' bn⟩
theorem in' (S:List UInt8) (F:S.length=64) (w:World):Calls prog 194 #[.agg (bv S).toArray] w fun r w'=>
  ∃h:Mq.Hd,r= .returned (.tuple #[gD' h, .bool (Mq.Jz S)])/\(Mq.Jz S=true->h=Mq.Qm S)/\Below w.heap.size w w':=by
 by_cases z:S=bd'
 ·subst z;refine(mF' w).mono ?_;rintro r y ⟨rfl,hb⟩;have:=Mq.Zj;rw[ce']at this;exact⟨Mq.hd0,by rw[this.1];rfl,fun _=>this.2.symm,hb⟩
 ·refine(mO' S F z w).mono ?_;rintro r y ⟨h,rfl,h2,hb⟩;refine⟨h,rfl,fun hk=>?_,hb⟩;rw[h2 hk];unfold Mq.Qm;rw[ce',if_neg z]
theorem rh':(prog.info? 155).map (·.size)=some 3:=by kernel_rfl
def xc' (r:Mq.Rc):Value:= .agg #[.int .i64 r.s, .int .i64 r.q, .string r.b]
theorem kb' (S:List UInt8) (ab:S.length=64) (aE:S≠bd') (last:Nat) (w:World):Calls prog 197 #[.agg (bv S).toArray, .int .u32 last] w fun r w'=>
  ∃h:Mq.Rc,r= .returned (.tuple #[xc' h, .bool (Mq.Xu S last)])/\(Mq.Xu S last=true->h=Mq.Yb S)/\Below w.heap.size w w':=by
 have br:=fun y=>iJ' (S:=S) (T:=bd') ab aA' y;rw[z52 aE]at br;have V:Mq.Xu S last=((decide (Mq.lenOf S<=20) && (decide ((S.getD 12 0).toNat < 3) && (decide (1<=(Qb.Qg S 14).toNat) &&decide ((Qb.Qg S 14).toNat<=2147483647)))) && (Mq.Qo (Mq.Xw S) && (decide (Mq.Xw S<=last) &&decide (Mq.Xl (Mq.Xw S) (Mq.Vc S) (Mq.Yb S)=S)))):=by unfold Mq.Xu;rw[ce',z52 aE,yg'];rfl
 have au:=fun(y:World) (h:y.heap[w.heap.size]? =some (.cells (bv S).toArray 207 (0,0)))=>m' (eo' S ab w.heap.size _ y h 14 50 50 (by omega) (by omega));rw[<-dt' S 14]at au;have aT:=fun y=>m' (jL' S ab y);have aU:=Mq.opOf_lt S;have aV:=Mq.ctOf_lt S;have bt:=Qb.Jk S 14;have aW:=fun y=>m' (jM' (Mq.Xw S) (Mq.Vc S) y);have aX:(S.getD 13 0).toNat=Mq.lenOf S:=rfl;have av:∀ (y:World) (j:Nat),j < 64->y.heap[w.heap.size]? =some (.cells (bv S).toArray 207 (0,0))->y.cell? ⟨w.heap.size,j,none⟩=some (.int .u8 (S.getD j 0).toNat):=fun y j hj h=>by rw[y' h,tI' (by omega)]
 have aF:=fun y h=>m' (av y 12 (by omega) h);have ax:=fun y h=>m' (av y 13 (by omega) h);rw[aX]at ax;have aY:Mq.Yb S=⟨(S.getD 12 0).toNat,(Qb.Qg S 14).toNat,⟨((S.drop 18).take (Mq.lenOf S)).toArray⟩⟩:=rfl;have aG:Mq.lenOf S<=20->(⟨((S.drop 18).take (Mq.lenOf S)).toArray⟩:z10).size<=20:=fun h=>by simp[ByteArray.size];omega
 have aH:Mq.lenOf S<=20->∀ (y:World) (n cap:Nat),n=Mq.lenOf S->y.heap[w.heap.size]? =some (.cells (bv S).toArray 207 (0,0))->(convert 44 9 (.slice (some ⟨w.heap.size,18,none⟩) n cap)).run prog y= .ok (.string ⟨((S.drop 18).take (Mq.lenOf S)).toArray⟩) y:=by intro hl y n cap hn h;subst hn;refine ec' (by simp;omega) (fun i hi=>?_);rw[av y (18+i) (by omega) h];simp[List.getD_eq_getElem?_getD,hi,List.getElem?_drop]
 have ah:=fun(h3:(S.getD 12 0).toNat < 3) (hl:Mq.lenOf S<=20) (y:World)=>m' (fK' (Mq.Xw S) (Mq.Vc S) (S.getD 12 0).toNat (Qb.Qg S 14).toNat ⟨((S.drop 18).take (Mq.lenOf S)).toArray⟩ y aU aV (by omega) (by omega) (aG hl));have aZ:Mq.Xl (Mq.Xw S) (Mq.Vc S) (Mq.Yb S)=Mq.Xc (Mq.Xw S) (Mq.Vc S) (Mq.Za (S.getD 12 0).toNat (Qb.Qg S 14).toNat (⟨((S.drop 18).take (Mq.lenOf S)).toArray⟩:z10).data.toList):=rfl;have ba:Mq.lenOf S<=20->(Mq.Xl (Mq.Xw S) (Mq.Vc S) (Mq.Yb S)).length=64:=fun hl=>Mq.Ye (aG hl);have aI:=fun(hl:Mq.lenOf S<=20) y=>iJ' (S:=Mq.Xl (Mq.Xw S) (Mq.Vc S) (Mq.Yb S)) (T:=S) (ba hl) ab y;have bP:=(S.getD 12 0).toNat_lt;have bQ:Mq.lenOf S < 256:=(S.getD 13 0).toNat_lt;rw[aY];rw[<-aZ]at ah;clear aZ ba aG av aX aY aE;obtain⟨b,hb⟩:=exq (⟨((S.drop 18).take (Mq.lenOf S)).toArray⟩:z10);rw[<-hb]at aH ah ⊢;clear hb;obtain⟨T,bb⟩:=exq (Mq.Xl (Mq.Xw S) (Mq.Vc S) (Mq.Yb S));rw[<-bb]at ah aI V;clear bb;obtain⟨ok,bc⟩:=exq (Mq.Xu S last);rw[<-bc]at V ⊢;clear bc;have bR:(Qb.Qg S 14).toNat < 4294967296:=by omega
 clear bt;generalize (Qb.Qg S 14).toNat=q at *;generalize (S.getD 12 0).toNat=sm at *;generalize Mq.Xw S=o at *;generalize Mq.Vc S=c at *;generalize Mq.lenOf S=H at *;have bu:IntKind.i64.wrap (H:Int)=(H:Int):=by rw[z36];omega
 have aJ:=m' V;have ai:=m' aH;have ay:=m' ah;have az:=m' aI;clear V aU aV aH ah aI;go_enter func197,ntmps197;go_upto_region 1 with fail;refine G' (fun x=>x.heap[w.heap.size]? =some (.cells (bv S).toArray 207 (0,0))/\x.heap[w.heap.size+1]? =some (.cells #[.int .i64 0, .int .i64 0, .string ⟨#[]⟩] 155 (0,0))/\Below w.heap.size w x) (cL' _ _ _) ?_;rintro x ⟨h0,h1,F⟩;have aA:=m' h0;have bd:=m' h1;have aK:=m' F;have be:=z14 h1;clear h0 h1 F;go_upto_region 3 with (first
  |(refine cf' rfl (.tmp 2) rfl w.heap.size rfl 207 S ab (d' aA) ?_)
  |(refine ck' rfl rfl ?_;go_simp))
 refine ab'
  [Ep w.heap.size 13,Ev (.int .u8 H),Ei H,Ev (.slice (some ⟨w.heap.size,14,none⟩) 50 50),Ev (.int .u32 q),Ev (.agg (bv S).toArray),Ev (.agg #[.int .u32 o, .int .u64 c]),
   fun v Y=>∃g,v= .pointer (some ⟨g,0,none⟩)/\w.heap.size+1 < g/\Y.heap[g]? =some (.cells #[.int .u32 0, .int .u64 0] 201 (0,0)),Ei H,Ev (.int .u32 q),Et]
  [[2],[1014],[2015],[2],[4017],[2],[6019],[],[3016],[5018],[8008,7020]] [15,16,17,18,19,20,21,9,7,8,0] [6,3,5,7,42]
  10 _ rfl rfl ?_ ?_ (hst:=by repeat' (first|exact V' _|exact aj'|exact(fun _ y Y h hb=>h.imp fun g h=>⟨h.1,h.2.1,(hb.block _ (z14 h.2.2)).trans h.2.2⟩)|exact trivial|apply z12))
 ·refine⟨?_,?_,?_,?_,?_,?_,?_,?_,?_,?_,trivial⟩;all_goals
   intro a' y hb z;have J:=(hb.block _ (by omega:w.heap.size < x.heap.size)).trans (d' aA);have bw:=hb.size;have d13:=d' (ax y J);have bz:=au y J;have aj:=m' J;clear hb J au aF ax;simp[I']at z
  ·go_simp;first|exact z11 _ _|exact⟨_,rfl,z11 _ _,rfl⟩
  ·go_simp;first|exact z11 _ _|exact⟨_,rfl,z11 _ _,rfl⟩
  ·go_simp;first|exact z11 _ _|exact⟨_,rfl,z11 _ _,rfl⟩
  ·go_simp;first|exact z11 _ _|exact⟨_,rfl,z11 _ _,rfl⟩
  ·go_simp;refine(d' bz).mono ?_;rintro r w1 ⟨rfl,O⟩;first|exact O|exact⟨rfl,O⟩|exact⟨_,rfl,O,rfl⟩
  ·rw[if_pos (by rfl)];exact cE' (.tmp 2) rfl w.heap.size (by simp[Act.eval,z]) 207 S ab (d' aj) ⟨_,rfl,z11 _ _,rfl⟩
  ·go_simp;refine(d' (aT y)).mono ?_;rintro r w1 ⟨rfl,O⟩;first|exact O|exact⟨rfl,O⟩|exact⟨_,rfl,O,rfl⟩
  ·go_simp;exact⟨_,rfl,(z11 _ _).alloc (z13 _) _,_,rfl,by omega,z19 _ _⟩
  ·go_simp;first|exact z11 _ _|exact⟨_,rfl,z11 _ _,rfl⟩
  ·go_simp;first|exact z11 _ _|exact⟨_,rfl,z11 _ _,rfl⟩
 ·intro f y Q M;simp only[ag',List.take]at M;have bf:=M.2.2.2.2.2.2.1;obtain⟨ad,bg,bS,aL⟩:=M.2.2.2.2.2.2.2.1;have bh:=M.2.2.2.2.2.2.2.2.1;have ak:=M.2.2.2.2.2.2.2.2.2.1;have J:=(Q.block _ (by omega:w.heap.size < x.heap.size)).trans (d' aA);have aa:=(Q.block _ be).trans (d' bd);have ac:=m' ((d' aK).trans (Q.mono (d' aK).size));clear M Q;simp only[O',bf,bg,bh,ak];refine iH' 201 (.tmp 8) (.tmp 20) rfl ad #[.int .u32 o, .int .u64 c] (by simp[Act.eval]) (by simp[Act.eval]) 201 _ aL (by rw[lF'];rfl) (by simp) (by rw[z49];intro u hu;simp at hu;rcases hu with rfl|rfl <;> rfl) ?_;have bi:=z92 y ad _ #[.int .u32 o, .int .u64 c] 201 (0,0) aL;have hF:=bp' y ad #[.int .u32 o, .int .u64 c];generalize f 14=bT;generalize f 15=bU;generalize f 16=bV;generalize f 17=bW;generalize f 18=bX;generalize f 19=bY;generalize y.setRow ad #[.int .u32 o, .int .u64 c]=Y at *;have z0:=hF.blk J (by omega);have aB:=hF.blk aa (by omega);have bj:=(d' ac).trans (hF.below (d' ac).size (fun k hk e=>by omega));clear hF J aa ac aL bf bg bh ak aA bd aK be aT au ax;have d12:=d' (aF Y z0);clear aF;have aC:=m' z0;have aD:=m' bi;have ao:=m' bj;obtain⟨aM,aN,aO⟩:=cC' aB;simp at aM aN aO;have bA:∀i,Y.frozen? ⟨w.heap.size+1,i,none⟩=false:=fun i=>H' aB;have aP:=m' aB;clear z0 bi bj aB;go_simp;go_upto_region 4 with fail;have aQ:20 < H\/3<=sm\/q < 1\/2147483647 < q->ok=false:=fun h=>by
   rw[d' aJ];rcases h with h|h|h|h
   ·rw[z52 (show ¬H<=20 by omega)];simp
   ·rw[z52 (show ¬sm < 3 by omega)];simp
   ·rw[z52 (show ¬1<=q by omega)];simp
   ·rw[z52 (show ¬q<=2147483647 by omega)];simp
  have aQ:=m' aQ;rcases(by omega:20 < (H:Int)\/¬20 < (H:Int)/\3<=(sm:Int)\/¬20 < (H:Int)/\¬3<=(sm:Int)/\(q:Int) < 1\/¬20 < (H:Int)/\¬3<=(sm:Int)/\¬ (q:Int) < 1/\2147483647 < (q:Int)\/¬20 < (H:Int)/\¬3<=(sm:Int)/\¬ (q:Int) < 1/\¬2147483647 < (q:Int))with c1|⟨c1,c2⟩|⟨c1,c2,c3⟩|⟨c1,c2,c3,c4⟩|⟨c1,c2,c3,c4⟩;rotate_right
  ·have aR:H<=20:=(by omega);have ai:=m' ((d' ai) aR);have ay:=m' ((d' ay) (by omega) aR);have az:=m' ((d' az) aR);go_upto_region 6 with fail;have bB:=z14 (d' aD);have bC:=z14 (d' aP);have w1:IntKind.i64.wrap (18+(H:Int))=18+(H:Int):=(by rw[z36];omega);have bD:IntKind.i64.wrap (sm:Int)=(sm:Int):=(by rw[z36];omega);have bE:IntKind.i64.wrap (q:Int)=(q:Int):=(by rw[z36];omega);have bF:(18:Int)<=18+(H:Int):=(by omega);have bG:18+(H:Int)<=64:=(by omega);have i3:(0:Int)<=18+(H:Int):=(by omega);have i4:(18+(H:Int)).toNat=18+H:=(by omega);refine ab'
    [Ep w.heap.size 12,Ev (.int .u8 sm),Ei sm,Ev (.int .u32 q),Ei q,Ei H,Ei (18+(H:Int)),Ev (.slice (some ⟨w.heap.size,18,none⟩) H 46),Ev (.string b),Ev (.agg #[.int .i64 sm, .int .i64 q, .string b]),
     fun v y=>∃g,v= .pointer (some ⟨g,0,none⟩)/\Y.heap.size<=g/\y.heap[g]? =some (.cells #[.int .i64 0, .int .i64 0, .string ⟨#[]⟩] 155 (0,0)),Et]
    [[2],[1037],[2038],[7],[4040],[6],[6042],[2,7043],[8044],[3039,5041,9045],[],[11009,10046]] [38,39,40,41,42,43,44,45,46,47,10,0] [9,1,27,10,16]
    11 _ rfl rfl ?_ ?_ (hst:=by repeat' (first|exact V' _|exact aj'|exact(fun _ y Y h hb=>h.imp fun g h=>⟨h.1,h.2.1,(hb.block _ (z14 h.2.2)).trans h.2.2⟩)|exact(fun _ _ _ h _=>h)|exact trivial|apply z12))
   ·refine⟨?_,?_,?_,?_,?_,?_,?_,?_,?_,?_,?_,trivial⟩;all_goals
     intro a' y hb z;have J:=(hb.block _ (by omega:w.heap.size < Y.heap.size)).trans (d' aC);have d12:=(hb.cell (p:=⟨w.heap.size,12,none⟩) (by show w.heap.size < _;omega)).trans d12;have bw:=hb.size;have aj:=m' J;clear hb J;simp[I']at z
    iterate 7
     ·go_simp;first|exact z11 _ _|exact⟨_,rfl,z11 _ _,rfl⟩
    ·go_simp;first|exact z11 _ _|exact⟨_,rfl,z11 _ _,rfl⟩
    ·have bZ:=(d' ai) y H 46 rfl (d' aj);go_simp;first|exact z11 _ _|exact⟨_,rfl,z11 _ _,rfl⟩
    ·go_simp;first|exact z11 _ _|exact⟨_,rfl,z11 _ _,rfl⟩
    ·go_simp;exact⟨_,rfl,(z11 _ _).alloc (z13 _) _,_,rfl,by omega,z19 _ _⟩
   ·intro f y Q M;simp only[ag',List.take]at M;have ak:=M.2.2.2.2.2.2.2.2.2.1;obtain⟨ap,bk,ca,aS⟩:=M.2.2.2.2.2.2.2.2.2.2.1;have J:=(Q.block _ (by omega:w.heap.size < Y.heap.size)).trans (d' aC);have aa:=(Q.block _ bC).trans (d' aP);have aq:=(Q.block _ bB).trans (d' aD);have ac:=m' ((d' ao).trans (Q.mono (d' ao).size));have cb:=(d' ao).size;clear M Q;simp only[O',ak,bk];refine iH' 155 (.tmp 9) (.tmp 46) rfl ap #[.int .i64 sm, .int .i64 q, .string b] (by simp[Act.eval]) (by simp[Act.eval]) 155 _ aS (by rw[rh'];rfl) (by simp) (by rw[z49];intro u hu;simp at hu;rcases hu with rfl|rfl|rfl <;> rfl) ?_;have bl:=z92 y ap _ #[.int .i64 sm, .int .i64 q, .string b] 155 (0,0) aS;have hF:=bp' y ap #[.int .i64 sm, .int .i64 q, .string b];generalize f 37=cc;generalize f 38=cd;generalize f 39=ce;generalize f 40=cf;generalize f 41=cg;generalize f 42=ch;generalize f 43=ci;generalize f 44=cj;generalize f 45=ck;generalize y.setRow ap #[.int .i64 sm, .int .i64 q, .string b]=u at *;have u0:=hF.blk J (by omega);have u1:=hF.blk aa (by omega);have u8:=hF.blk aq (by omega);have bm:=(d' ac).trans (hF.below (d' ac).size (fun k hk e=>by omega));clear hF J aa aq ac aS ak bk aC aP aD ao d12 aM aN aO bA ai bF bG i3 i4 w1 bD bE bu;have bH:=m' u0;have bI:=m' u1;have bJ:=m' u8;have bK:=m' bl;have bn:=m' bm;clear u0 u1 u8 bl bm;go_simp;go_upto_region 7 with fail;have V:ok=(Mq.Qo o&& (decide (o<=last) &&decide (T=S))):=by rw[d' aJ,z47 (show H<=20 by omega),z47 (show sm < 3 by omega),z47 (show 1<=q by omega),z47 (show q<=2147483647 by omega)];simp only[Bool.true_and]
    have bL:(Mq.Qo o=false/\ok=false)\/(Mq.Qo o=true/\decide (o<=last)=true/\(o:Int)<=(last:Int)/\ok=decide (T=S))\/(Mq.Qo o=true/\decide (o<=last)=false/\¬ (o:Int)<=(last:Int)/\ok=false):=by
     cases h:Mq.Qo o
     ·exact .inl ⟨rfl,by rw[V,h];rfl⟩
     ·by_cases h2:o<=last
      ·exact .inr (.inl ⟨rfl,z47 h2,by omega,by rw[V,h,z47 h2];rfl⟩)
      ·exact .inr (.inr ⟨rfl,z52 h2,by omega,by rw[V,h,z52 h2];rfl⟩)
    clear V;obtain⟨cl,bo⟩:=exq (decide (o<=last));rcases bL with ⟨G,I⟩|⟨G,F,bM,I⟩|⟨G,F,bM,I⟩
    case' inl=>have F:=bo.symm
    all_goals
     have cm:=m' I;clear bo;refine af'
      [Ev (.agg #[.int .i64 sm, .int .i64 q, .string b]),Ev (.agg #[.int .u32 o, .int .u64 c]),Eb (Mq.Qo o),Eb (Mq.Qo o),fun v _=>Mq.Qo o=true->v= .pointer (some ⟨ad,0,none⟩),fun v _=>Mq.Qo o=true->v= .int .u32 o,fun v _=>Mq.Qo o=true->v= .int .u32 last,fun v _=>Mq.Qo o=true->v= .bool (decide (o<=last)),Eb (Mq.Qo o&&decide (o<=last)),Eb (Mq.Qo o&&decide (o<=last)),fun v _=>(Mq.Qo o&&decide (o<=last))=true->v= .agg #[.int .u32 o, .int .u64 c],fun v _=>(Mq.Qo o&&decide (o<=last))=true->v= .agg #[.int .i64 sm, .int .i64 q, .string b],fun v _=>(Mq.Qo o&&decide (o<=last))=true->v= .agg (bv T).toArray,fun v _=>(Mq.Qo o&&decide (o<=last))=true->v= .agg (bv S).toArray,fun v _=>(Mq.Qo o&&decide (o<=last))=true->v= .bool (decide (T=S)),Eb ok,fun _ y=>y.heap[w.heap.size+1]? =some (.cells #[.int .i64 sm, .int .i64 q, .string b] 155 (0,0)),Eb ok]
      [[9],[8],[2048],[3049],[8,4050],[5051,4050],[1,4050],[6052,7053,4050],[4050,8054],[9055],[8,10056],[9,10056],[11057,12058,10056],[2,10056],[13059,14060,10056],[10056,15061],[4,1047],[16062]] [48,49,50,51,52,53,54,55,56,57,58,59,60,61,62,63,0,6] [5,1,41,16]
      [(16,fun k=>k=w.heap.size+1)] ?_ ?_ (hst:=by repeat' (first|exact V' _|exact(fun _ _ _ h _=>h)|exact ca' _ _|exact trivial|apply z12)) (hstF:=by repeat' (first|exact trivial|exact .inl rfl|exact .inr (.inr (bj' _ _))|exact .inr (.inr (fun _ _ _ h _=>h))|apply z12))
     ·refine⟨?_,?_,?_,?_,?_,?_,?_,?_,?_,?_,?_,?_,?_,?_,?_,?_,?_,?_,trivial⟩;all_goals
       intro a' y hb z;have J:=hb.blk (d' bH) (ay' (by intro (e:w.heap.size=w.heap.size+1);omega));have aq:=hb.blk (d' bJ) (ay' (by intro (e:ad=w.heap.size+1);omega));have bp:=hb.blk (d' bK) (ay' (by intro (e:ap=w.heap.size+1);omega));obtain⟨cn,cp⟩:=eE' aq;obtain⟨r0,cq,cr⟩:=gF' bp;have aj:=m' J;clear J aq bp;simp[I',G,F]at z
      iterate 2
       ·clear hb;go_simp;first|exact Far.refl _ _|exact⟨_,rfl,Far.refl _ _,rfl⟩|exact⟨_,rfl,Far.refl _ _,by simp[G,F,I]⟩|simp[G,F,I,Far.refl]
      ·clear hb;go_simp;refine(d' (aW y)).mono ?_;rintro r w1 ⟨rfl,O⟩;exact⟨_,rfl,C' O,by first|rfl|(rw[G];rfl)⟩
      ·clear hb;go_simp;first|exact Far.refl _ _|exact⟨_,rfl,Far.refl _ _,rfl⟩|exact⟨_,rfl,Far.refl _ _,by simp[G,F,I]⟩|simp[G,F,I,Far.refl]
      iterate 4
       ·clear hb;first
         |(have Z:a'.tmps[50]? =some (.bool false):=dR' (by first|exact z|exact z.2|exact z.2.2)
           go_simp;try simp[G,F])
         |(have Z:a'.tmps[50]? =some (.bool true):=dR' (by first|exact z|exact z.2|exact z.2.2)
           go_simp;first|exact Far.refl _ _|exact⟨_,rfl,Far.refl _ _,rfl⟩|exact⟨_,rfl,Far.refl _ _,by simp[G,F,I]⟩|simp[G,F,I,Far.refl])
      iterate 2
       ·clear hb;go_simp;first|exact Far.refl _ _|exact⟨_,rfl,Far.refl _ _,rfl⟩|exact⟨_,rfl,Far.refl _ _,by simp[G,F,I]⟩|simp[G,F,I,Far.refl]
      iterate 2
       ·clear hb;first
         |(have Z:a'.tmps[56]? =some (.bool false):=dR' (by first|exact z|exact z.2|exact z.2.2)
           go_simp;try simp[G,F])
         |(have Z:a'.tmps[56]? =some (.bool true):=dR' (by first|exact z|exact z.2|exact z.2.2)
           go_simp;first|exact Far.refl _ _|exact⟨_,rfl,Far.refl _ _,rfl⟩|exact⟨_,rfl,Far.refl _ _,by simp[G,F,I]⟩|simp[G,F,I,Far.refl])
      ·clear hb;first
        |(have Z:a'.tmps[56]? =some (.bool false):=dR' (by first|exact z|exact z.2|exact z.2.2)
          go_simp;try simp[G,F])
        |(have Z:a'.tmps[56]? =some (.bool true):=dR' (by first|exact z|exact z.2|exact z.2.2)
          go_simp;refine(d' ((d' ay) y)).mono ?_;rintro r w1 ⟨rfl,O⟩;exact⟨_,rfl,C' O,by first|rfl|exact fun _=>rfl⟩)
      ·clear hb;first
        |(have Z:a'.tmps[56]? =some (.bool false):=dR' (by first|exact z|exact z.2|exact z.2.2)
          go_simp;try simp[G,F])
        |(have Z:a'.tmps[56]? =some (.bool true):=dR' (by first|exact z|exact z.2|exact z.2.2)
          rw[if_pos (by go_simp)];exact cE' (.tmp 2) rfl w.heap.size (by simp[Act.eval,z]) 207 S ab (d' aj) ⟨_,rfl,Far.refl _ _,by first|rfl|exact fun _=>rfl⟩)
      ·clear hb;have cs:=(d' az) y;first
        |(have Z:a'.tmps[56]? =some (.bool false):=dR' (by first|exact z|exact z.2|exact z.2.2)
          go_simp;try simp[G,F])
        |(have Z:a'.tmps[56]? =some (.bool true):=dR' (by first|exact z|exact z.2|exact z.2.2)
          go_simp;first|exact Far.refl _ _|exact⟨_,rfl,Far.refl _ _,rfl⟩|exact⟨_,rfl,Far.refl _ _,by simp[G,F,I]⟩|simp[G,F,I,Far.refl])
      ·clear hb;go_simp;first|exact Far.refl _ _|exact⟨_,rfl,Far.refl _ _,rfl⟩|exact⟨_,rfl,Far.refl _ _,by simp[G,F,I]⟩|simp[G,F,I,Far.refl]
      ·have aa:=hb.blk (d' bI) bD';clear hb;rw[if_pos (by rfl)];refine iH' 155 (.tmp 4) (.tmp 47) rfl (w.heap.size+1) #[.int .i64 sm, .int .i64 q, .string b] (by simp[Act.eval,z]) (by simp[Act.eval,z]) 155 _ aa (by rw[rh'];rfl) (by simp) (by rw[z49];intro u hu;simp at hu;rcases hu with rfl|rfl|rfl <;> rfl) ?_;exact⟨_,rfl,an' (.head _) (bp' _ _ _),z92 _ _ _ _ _ _ aa⟩
      ·clear hb;go_simp;first|exact Far.refl _ _|exact⟨_,rfl,Far.refl _ _,rfl⟩|exact⟨_,rfl,Far.refl _ _,by simp[G,F,I]⟩|simp[G,F,I,Far.refl]
     ·intro f y hF M;have bq:=M.2.2.2.2.2.2.2.2.2.2.2.2.2.2.2.2.1;have bN:=M.2.2.2.2.2.2.2.2.2.2.2.2.2.2.2.2.2.1;obtain⟨k0,k1,k2⟩:=gF' bq;have bO:=m' ((d' bn).trans ((dM' hF).below (d' bn).size (fun k hk (h:k=w.heap.size+1)=>by omega)));clear M hF bq I G F;simp only[O',bN];go_simp;go_wp2;refine z50 (v:= .tuple #[.agg #[.int .i64 sm, .int .i64 q, .string b], .bool ok]) (by simp[results,results197,go_sem,k0,k1,k2]) rfl ⟨⟨sm,q,b⟩,rfl,(fun _=>rfl),d' bO⟩
  all_goals
   clear ai ay az aW aC aD aJ;go_wp2;have I:=(d' aQ) (by omega);refine z50 (v:= .tuple #[.agg #[.int .i64 0, .int .i64 0, .string ⟨#[]⟩], .bool false]) (by simp[results,results197,go_sem,aM,aN,aO]) rfl ⟨⟨0,0,⟨#[]⟩⟩,(by rw[I];rfl),(fun h=>(by rw[I]at h;cases h)),?_⟩;exact(((d' ao).setCell (p:=⟨w.heap.size+1,0,none⟩) (by simp) _).setCell (p:=⟨w.heap.size+1,1,none⟩) (by simp) _).setCell (p:=⟨w.heap.size+1,2,none⟩) (by simp) _
end Go.Proofs.YtamafdcnbcoegaaGreat
