/-
  Part 2 of a proof.
-/
import Derived.Laws.ResultCell
import Derived.Deep.RegionHeld3
import Derived.Lib.BufferWrite
import Derived.Test.YtamafdcnbcoegabGreatOa1
set_option maxRecDepth 100000
set_option maxHeartbeats 40000000
namespace Go.Proofs.YtamafdcnbcoegabGreat
attribute [local simp, local go_sem] Ev Ep Ei Eb Et Ej Ea En Er Es
open Qb
abbrev z19:= @Go.heap_alloc_new
abbrev z25:= @List.getElem?_eq_some_iff
abbrev z39:= @List.append_assoc
abbrev z42:= @List.length_map
abbrev z46:= @Go.World.cell?_of_block
abbrev z64:= @Go.results_none
abbrev z68:= @List.eq_nil_of_length_eq_zero
abbrev z71:= @List.length_take
abbrev z72:= @Go.run_underlying
abbrev z74:= @Go.bodyPost_end
abbrev z78:= @List.nil_append
abbrev z79:= @List.mem_iff_getElem
abbrev z80:= @Go.World.size_setCell
abbrev z86:= @List.getElem_mem
abbrev z91:= @Go.setRow_heap
abbrev z94:= @List.getElem?_set
abbrev z97:= @List.length_drop
abbrev z99:= @Go.World.cell?_setCell_same
abbrev Iw:= @List.size_toArray
abbrev Fq:= @Array.toList_setIfInBounds
abbrev Ix:= @Array.length_toList
abbrev Iy:= @Array.toList_append
abbrev Iz:= @List.drop_append_of_le_length
abbrev Fr:= @Go.World.ownsRow.frozenAt
abbrev mU:= @Go.setRow_other
abbrev Fs:= @Array.size_append
abbrev Ft:= @Nat.mul_le_mul_right
abbrev Mb:= @List.getElem?_replicate
abbrev Fu:= @Nat.min_eq_left
abbrev Ka:= @Nat.add_sub_cancel_left
abbrev Fv:= @Go.grownCap_le_maxLen
abbrev Ah:= @List.take_take
abbrev Kb:= @List.set_append_right
abbrev Kc:= @List.contains_iff_mem
abbrev Nc:= @ByteArray.data_append
abbrev Fw:= @List.length_set
abbrev Kd:= @Go.run_firstCells_some
abbrev Nd:= @Go.size_zeroCells
abbrev Ke:= @List.drop_take
abbrev Ai:= @Array.ext'
open Go.RowKit Go.Proofs.Tryz
variable{w a q b Q:Nat}{o V aF aH:Int}{p f B:World}{y u R aI aM aP aJ:Value}{z:z10}{r aR:List UInt8}{j aT:TypeId}{C aO bB bY dK:List Value}{aW:Nat -> Nat -> Prop}{l aN:Array Value}{aA fU:Nat×Nat}{J:Oper}{G:Act}{aB:Exit -> Act -> World -> Prop}{aC:Array Oper}{bQ:Prop}{aU:Obj}{N:Nat -> Prop}{cI:Option Nat}{m I:Nat -> Value}{k:List Nat}
theorem hao (z:World) (o:Obj) (h:w < z.heap.size):(z.alloc o).heap[w]? =z.heap[w]? :=by
 show(z.heap.push o)[w]? = _;rw[Array.getElem?_push_lt h,z75 h]
def CH (n:Int):z10:=⟨#[UInt8.ofNat (n.toNat % 256),UInt8.ofNat (n.toNat / 256 % 256),UInt8.ofNat (n.toNat / 65536 % 256),UInt8.ofNat (n.toNat / 16777216 % 256)]⟩
theorem wY (n:Int):(CH n).data.toList=le4 n:=rfl
theorem mV {w:World} {l:List UInt8} {n:Nat} (hl:l.length=n):(convert 48 9 (Es w.heap.size 0 n n)).run prog (w.alloc (.cells (bv l).toArray 5))=.ok (.string ⟨l.toArray⟩) (w.alloc (.cells (bv l).toArray 5)):=by
 refine JX hl (λi hi=>?_);have:=AW (w:=w) (l:=bv l) (e:=5) i _ (JW (by omega));by_cases h:i=0;subst h;simpa[Addr.add]using this;simpa[Addr.add,h]using this
theorem XF (n:Int) (w:World) (h0:0<=n):
  Cp 99 #[Ej n] w λr w'=>Rr r (.string (CH n))/\El w w':=by
 have z:=mV (w:=w) (l:=le4 n) (n:=4) rfl;rw[zU h0]at z;have F:Hid ((⟨(le4 n).toArray⟩:z10)=CH n):=rfl;go_enter func99,ntmps99;go_wp2;go_ret;exact⟨rfl,bna⟩
theorem eO {n:Int} (h: -9223372036854775808<=n/\n<=9223372036854775807):wrap64 n=n:=by unfold wrap64;omega
theorem Kf (z:w < 2 ^ 8) (hb:a < 2 ^ 8) (F:q < 2 ^ 8) (hd:b < 2 ^ 8):
  wrap64 (wrap64 (wrap64 (wrap64 (w:Int)+wrap64 (wrap64 (a:Int) * 256))+wrap64 (wrap64 (q:Int) * 65536))+wrap64 (wrap64 (b:Int) * 16777216))=(w:Int)+a * 256+q * 65536+b * 16777216:=by
 rw[eO (n:=(w:Int)) (by omega),eO (n:=(a:Int)) (by omega),eO (n:=(q:Int)) (by omega),eO (n:=(b:Int)) (by omega),eO (n:=(a:Int) * 256) (by omega),eO (n:=(q:Int) * 65536) (by omega),eO (n:=(b:Int) * 16777216) (by omega),
  eO (n:=(w:Int)+(a:Int) * 256) (by omega),eO (n:=(w:Int)+(a:Int) * 256+(q:Int) * 65536) (by omega),eO (by omega)]
theorem II (s:z10) (i:Nat) (w:World) (h:i+4<=s.size) (hs:s.size<=9223372036854775807):
  Cp 181 #[.string s,Ej i] w λr w'=>Rr r (Ej (Qh s.data.toList i))/\∃n,w'=w.drewN n:=by
 have g:∀j (hj:j < s.size),s.data.toList.getD j 0=s[j]:=by
  intro j hj;have hl:j < s.data.toList.length:=by simpa using hj
  rw[z15,z17 hl];rfl
 have z:i < s.size:=by omega
 have F:i+1 < s.size:=by omega
 have b2:i+2 < s.size:=by omega
 have G:i+3 < s.size:=by omega
 have i0:(i:Int) < (s.size:Int):=by omega
 have I:(i:Int)+1 < (s.size:Int):=by omega
 have J:(i:Int)+2 < (s.size:Int):=by omega
 have i3:(i:Int)+3 < (s.size:Int):=by omega
 have M:IntKind.i64.wrap ((i:Int)+1)=(i:Int)+1:=by rw[z28];omega
 have Q:IntKind.i64.wrap ((i:Int)+2)=(i:Int)+2:=by rw[z28];omega
 have V:IntKind.i64.wrap ((i:Int)+3)=(i:Int)+3:=by rw[z28];omega
 have Y:(0:Int)<=(i:Int)+1:=by omega
 have Z:(0:Int)<=(i:Int)+2:=by omega
 have z3:(0:Int)<=(i:Int)+3:=by omega
 have H:Hid (Qh s.data.toList i=(s[i].toNat:Int)+s[i+1].toNat * 256+s[i+2].toNat * 65536+s[i+3].toNat * 16777216):=by show _= _;unfold Qh Vv;rw[g i z,g (i+1) F,g (i+2) b2,g (i+3) G]
 clear g;go_enter func181,ntmps181;go_wp2;go_quiet (fail);go_wp2;go_ret;refine⟨IP ?_,_,rfl⟩;have t0:=s[i].toNat_lt;have t1:=s[i+1].toNat_lt;have t2:=s[i+2].toNat_lt;have t3:=s[i+3].toNat_lt;rw[d' H];exact Kf t0 t1 t2 t3
def sG (x:Int) (v:Value) (w:World):Prop:=∃g,v=.slice (some ⟨g,0,none⟩) 1 1/\w.cell? (Ea g 0)=some (.int .u8 x)
theorem ak' (x:Int):CL (sG x):=by
 rintro v w w' ⟨g,rfl,h⟩ hb;exact⟨g,rfl,Bc hb (z69 _ _ h) h⟩
def s1 (x:Int):z10:=⟨#[UInt8.ofNat (x.toNat % 256)]⟩
theorem vL (x:Int):(s1 x).size=1:=rfl
theorem OM (x:Int):(CH x).size=4:=rfl
theorem NH {n:Int} (h0:0<=n) (h1:n < 256) {v:Value} {w:World} (h:sG n v w):(convert 48 9 v).run prog w=.ok (.string (s1 n)) w:=by
 obtain⟨g,rfl,z⟩:=h;refine JX (l:=[UInt8.ofNat (n.toNat % 256)]) rfl (λi hi=>?_);have:i=0:=by simpa using hi
 subst this;have hb:=MC h0 h1;simp[bv]at hb;simp[z,hb]
theorem u8w {n:Int} (h0:0<=n) (h1:n < 256):IntKind.u8.wrap n=n:=by simp[IntKind.wrap,IntKind.bits,IntKind.signed];omega
theorem wZ (k e s q:Int) (b:z10):s1 k++CH e++s1 s++CH q++s1 (b.size:Int)++b=⟨(Qb.front k e s q b.data.toList).toArray⟩:=by
 apply wL;simp only[ByteArray.data_append];apply Ai;simp[s1,CH,Qb.front,le4]
theorem DH (k e s q:Int) (b:z10) (w:World) (M:Qb.proper k e s q b=true):
  Cp 61 #[.agg #[Ej k,Ej e,Ej s,Ej q,.string b]] w λr w'=>Rr r (.string ⟨(Qb.bytes k e s q b.data.toList).toArray⟩)/\El w w':=by
 obtain⟨h1,h2,h3,h4,h5⟩:=BZ M;clear M;go_enter func61,ntmps61;go_upto_region 1 with fail;have F:=CU w k e s q b 63;have ac:=u8w (n:=k) (by omega) (by omega);have ad:=u8w (n:=s) (by omega) (by omega);have ah:=u8w (n:=(b.size:Int)) (by omega) (by omega);have ai:=vL;have aj:(11:Int)+(b.size:Int)<=9223372036854775807:=by omega
 have aG:11+b.size<=9223372036854775807:=by omega
 have z4:=OM;have ak:=λv w=>NH (n:=k) (by omega) (by omega) (v:=v) (w:=w);have ao:=λv w=>NH (n:=s) (by omega) (by omega) (v:=v) (w:=w);have aq:=λv w=>NH (n:=(b.size:Int)) (by omega) (by omega) (v:=v) (w:=w);refine AI
  [Ep w.heap.size 0,Ei k,Ev (.int .u8 k),sG k,Ev (.string (s1 k)),
   Ep w.heap.size 1,Ei e,Ev (.string (CH e)),Ev (.string (s1 k++CH e)),
   Ep w.heap.size 2,Ei s,Ev (.int .u8 s),sG s,Ev (.string (s1 s)),Ev (.string (s1 k++CH e++s1 s)),
   Ep w.heap.size 3,Ei q,Ev (.string (CH q)),Ev (.string (s1 k++CH e++s1 s++CH q)),
   Ep w.heap.size 4,Ev (.string b),Ei b.size,Ev (.int .u8 b.size),sG b.size,Ev (.string (s1 b.size)),Ev (.string (s1 k++CH e++s1 s++CH q++s1 b.size)),
   Ep w.heap.size 4,Ev (.string b),Ev (.string (s1 k++CH e++s1 s++CH q++s1 b.size++b)),Ev (.string (s1 k++CH e++s1 s++CH q++s1 b.size++b))]
  [[1],[1006],[2007],[3008],[4009],[1],[6011],[7012],[5010,8013],[1],[10015],[11016],[12017],[13018],[9014,14019],[1],[16021],[17022],[15020,18023],[1],[20025],[21026],[22027],[23028],[24029],[19024,25030],[1],[27032],[26031,28033],[29034]]
  [7,8,9,10,11,12,13,14,15,16,17,18,19,20,21,22,23,24,25,26,27,28,29,30,31,32,33,34,35,4]
  [3,1,2,29,999] ?_ ?_ (hst:=by repeat' (first|exact Y' _|exact ak' _|exact trivial|apply z13))
 .refine⟨?_,?_,?_,?_,?_,?_,?_,?_,?_,?_,?_,?_,?_,?_,?_,?_,?_,?_,?_,?_,?_,?_,?_,?_,?_,?_,?_,?_,?_,?_,trivial⟩;all_goals
   intro a x hb Q;obtain⟨aH,aI,aJ,aK,aL⟩:=F.below hb (by simp);clear hb F;simp only[J',List.getD_cons_zero,List.getD_cons_succ,Array.getD_eq_getD_getElem?]at Q;simp at Q;try go_simp
   try exact z11 _ _
  all_goals first
   |exact⟨_,rfl,bna,_,rfl,by simp⟩
   |(refine(XF _ _ ?_).mono ?_;(focus omega);rintro r w1 ⟨rfl,au⟩;exact⟨rfl,au⟩)
   |(rw[if_neg (by omega)];go_simp;exact z11 _ _)
 intro f av hb G;simp only[AJ]at G;have z:=G.2.2.2.2.2.2.2.2.2.2.2.2.2.2.2.2.2.2.2.2.2.2.2.2.2.2.2.2.2.1;rw[wZ]at z;have V:=y' (((z11 w.heap.size w).alloc (z16 _) (.cells #[Ej k,Ej e,Ej s,Ej q,.string b] 63)).trans (hb.mono (by simp)));have H:(Qb.front k e s q b.data.toList).length=11+b.size:=by rw[Yc];simp
 clear G hb F ac ad ah ai z4 ak ao aq aj;have Y:Hid (Qb.bytes k e s q b.data.toList=Qb.front k e s q b.data.toList++le4 (Qb.sum (Qb.front k e s q b.data.toList))):=rfl;generalize Qb.front k e s q b.data.toList=fr at z H Y;simp only[V',z];clear z h1 h2 h3 h4;have Z:(ByteArray.mk fr.toArray).size=fr.length:=by simp[ByteArray.size]
 have ax:=Yt fr;have aa:∀ (i:Nat) (h:i < (ByteArray.mk fr.toArray).size),(ByteArray.mk fr.toArray)[i]=fr.getD i 0:=by
  intro i h;have ay:i < fr.length:=by omega
  simp only[List.getD_eq_getElem?_getD,List.getElem?_eq_getElem ay];rfl
 have ab:=y' aa;have I:=y' Z;have az:(ByteArray.mk fr.toArray).size<=31:=by omega
 clear aa Z;obtain⟨S,J⟩:=exq (ByteArray.mk fr.toArray);rw[<-J]at ab I az ⊢;have aA:=y' J;have aM:=y' H;clear J H;go_wp2;go_loopw[4,5] (λsm i wr=>wr=av/\∃j:Nat,j<=S.size/\i=.int .i64 j/\sm=.int .i64 (Qb.sum (fr.take j))) (λ_ i _=>S.size - (intOf i).toNat)
 case atStart=>exact⟨rfl,0,z54 _,rfl,rfl⟩
 case round=>
  obtain⟨rfl,j,hj,rfl,rfl⟩:=hrel;by_cases aB:j < S.size
  .have aN:=Yt (fr.take j);have aO:S[j].toNat < 256:=S[j].toNat_lt;have aC:Hid (Qb.sum (fr.take (j+1))=(Qb.sum (fr.take j) * 31+(S[j].toNat:Int)) % 4294967296):=(by show _= _;rw[sum_take fr j (by have:=d' I;omega),d' ab j aB];rfl);go_wp2;go_roundw
   case rel=>exact⟨by first|trivial|rfl,j+1,by omega,by go_num,by rw[d' aC]⟩
   case measure=>simp[intOf];omega
  have aD:Hid (fr.take j=fr):=z48 (by have:=d' I;omega);have aP:(CH (Qb.sum fr)).size=4:=rfl;rw[d' aD];go_wp2_with (go_at_call 99;refine(XF _ _ ax.1).mono ?_;rintro r aQ ⟨rfl,aE⟩);go_ret;have aF:=(d' V).trans (aE.mono (d' V).size);refine⟨?_,aF⟩;have e:S++CH (Qb.sum fr)=⟨(Qb.bytes k e s q b.data.toList).toArray⟩:=by rw[d' aA,d' Y];apply wL;rw[Nc];apply Ai;simp[CH,le4]
  rw[<-e];rfl
theorem sH {k:Int} {b:z10} (h:¬ (0<=o/\o<=2147483647/\0<=aF/\aF<=2147483647/\0<=V/\V < 3)):Qb.proper k o V aF b=false:=by
 cases z:Qb.proper k o V aF b;rfl;obtain⟨h1,h2,h3,h4,h5⟩:=BZ z;omega
theorem eP (k e s q:Int) (b:z10) (w:World) (h:¬ (0<=e/\e<=2147483647/\0<=q/\q<=2147483647/\0<=s/\s < 3)):
  Cp 141 #[.agg #[Ej k,Ej e,Ej s,Ej q,.string b]] w λr w'=>Rr r (.bool (Qb.proper k e s q b))/\El w w':=by
 have G:=y' (sH (k:=k) (b:=b) h);by_cases z:0<=e/\e<=2147483647
 .by_cases F:0<=q/\q<=2147483647
  .have hs:s < 0\/3<=s:=(by omega);rcases hs with hs|hs;all_goals
    clear h;obtain⟨H,I⟩:=z;obtain⟨Q,V⟩:=F;go_enter func141,ntmps141;go_wp2;go_ret;exact⟨BR (d' G).symm,bna⟩
  have J:q < 0\/2147483647 < q:=by omega
  clear h F;rcases J with F|F;all_goals
   obtain⟨H,I⟩:=z;go_enter func141,ntmps141;go_wp2;go_ret;exact⟨BR (d' G).symm,bna⟩
 have M:e < 0\/2147483647 < e:=by omega
 clear h z;rcases M with z|z;all_goals
  go_enter func141,ntmps141;go_wp2;go_ret;exact⟨BR (d' G).symm,bna⟩
theorem mW (k e s q:Int) (b:z10) (w:World) (h:0<=e/\e<=2147483647/\0<=q/\q<=2147483647/\0<=s/\s < 3) (z:k=1\/k=5):
  Cp 141 #[.agg #[Ej k,Ej e,Ej s,Ej q,.string b]] w λr w'=>Rr r (.bool (Qb.proper k e s q b))/\El w w':=by
 have G:Hid (Qb.proper k e s q b=(decide (s=0) && (decide (q=0) &&decide (b.size=0)))):=by show _= _;simp[Qb.proper,Qb.isNum,h.1,h.2.1,z]
 have F:(k==1)=true\/((k==1)=false/\(k==5)=true):=by rcases z with rfl|rfl <;> simp
 obtain⟨I,J,M,Q,s0,s1⟩:=h;clear z;rcases F with F|⟨F,V⟩;all_goals
  go_enter func141,ntmps141;go_wp2;all_goals
   go_ret;refine⟨BR ?_,bna⟩;have G:=d' G;have H:((b.size:Int) ==0)=decide (b.size=0):=by by_cases h:b.size=0 <;> simp[h]
   try simp only[H]
   clear H;simp_all
theorem mX (k e s q:Int) (b:z10) (w:World) (h:0<=e/\e<=2147483647/\0<=q/\q<=2147483647/\0<=s/\s < 3) (ac:k=2) (hb:b.size<=9223372036854775807):
  Cp 141 #[.agg #[Ej k,Ej e,Ej s,Ej q,.string b]] w λr w'=>Rr r (.bool (Qb.proper k e s q b))/\El w w':=by
 subst ac;have F:Hid (Qb.proper 2 e s q b=(decide (s=0) && (decide (q=0) &&Xi b))):=by show _= _;simp[Qb.proper,Qb.isNum,h.1,h.2.1]
 obtain⟨ai,aj,ak,ao,s0,s1⟩:=h;by_cases hs:s=0
 .by_cases z:q=0
  .by_cases H:(b.size:Int)=12
   .have G:Hid (Qb.proper 2 e s q b=Xi b):=(by show _= _;rw[d' F,hs,z];simp);have aq:=y' z;have au:=y' hs;have V:(s==0)=true:=(by simp[hs]);have Z:(q==0)=true:=(by simp[z]);have hn:((b.size:Int) !=12)=false:=(by simp[H]);have aa:=y' H;clear F hs z H;go_enter func141,ntmps141;go_wp2;go_loopw[5,6,64,65,68,69,70,71,72,73] (λi _ _ _ _ _ _ _ _ _ wr=>∃j:Nat,j<=3/\i=.int .i64 (4 * j:Nat)/\mM b j/\∃n,wr=(w.alloc (.cells #[.int .i64 2,.int .i64 e,.int .i64 s,.int .i64 q,.string b] 63)).drewN n) (λi _ _ _ _ _ _ _ _ _ _=>12 - (intOf i).toNat)
    case atStart=>exact⟨0,by omega,rfl,wP b,0,rfl⟩
    case round=>
     obtain⟨j,hj,rfl,I,n,rfl⟩:=hrel;by_cases ad:j < 3
     .have Y:=λw'=>y' (II b (4 * j) w' (by have:=d' aa;omega) hb);have M:=λh=>wQ (k:=j) I h;have Q:=λh=>sD (s:=b) ad h;generalize Qh b.data.toList (4 * j)=m at Y M Q;by_cases ah:m<=2147483647
      .have J:Hid (mM b (j+1)):=M ah;clear M Q I;go_wp2_with (go_at_call 181;refine Cm (Y _) ?_;rintro r w' ⟨rfl,ab,rfl⟩);go_roundw
       case rel=>exact⟨j+1,by omega,by go_num,J.out,n+ab,by simp⟩
       case measure=>simp[intOf];omega
      have J:Hid (Xi b=false):=Q (by omega);clear M Q I;go_wp2_with (go_at_call 181;refine Cm (Y _) ?_;rintro r w' ⟨rfl,ab,rfl⟩);go_ret;exact⟨BR (by rw[d' G,d' J]),z36 bna _⟩
     have J:Hid (Xi b=true):=mN (d' aa) (by obtain rfl:j=3:=(by omega);exact I);clear I;go_wp2;go_ret;exact⟨BR (by rw[d' G,d' J]),z36 bna _⟩
   have G:Hid (Qb.proper 2 e s q b=false):=(by show _= _;rw[d' F];simp[Xi];omega);have V:(s==0)=true:=(by simp[hs]);have Z:(q==0)=true:=(by simp[z]);have hn:((b.size:Int) !=12)=true:=(by simp[H]);clear F hs z H;go_enter func141,ntmps141;go_wp2;go_ret;exact⟨BR (d' G).symm,bna⟩
  have G:Hid (Qb.proper 2 e s q b=false):=by show _= _;rw[d' F];simp[z]
  have V:(s==0)=true:=by simp[hs]
  have Z:(q==0)=false:=by simp[z]
  clear F hs z;go_enter func141,ntmps141;go_wp2;go_ret;exact⟨BR (d' G).symm,bna⟩
 have G:Hid (Qb.proper 2 e s q b=false):=by show _= _;rw[d' F];simp[hs]
 have V:(s==0)=false:=by simp[hs]
 clear F hs;go_enter func141,ntmps141;go_wp2;go_ret;exact⟨BR (d' G).symm,bna⟩
theorem mY (k e s q:Int) (b:z10) (w:World) (h:0<=e/\e<=2147483647/\0<=q/\q<=2147483647/\0<=s/\s < 3) (G:k=3):
  Cp 141 #[.agg #[Ej k,Ej e,Ej s,Ej q,.string b]] w λr w'=>Rr r (.bool (Qb.proper k e s q b))/\El w w':=by
 subst G;have z:Hid (Qb.proper 3 e s q b=(decide (1<=q) &&decide ((b.size:Int)<=20))):=by
  show _= _;have F:decide (q≠0)=decide (1<=q):=by rw[rX];omega
  have H:decide (b.size<=20)=decide ((b.size:Int)<=20):=by rw[rX];omega
  simp only[Qb.proper,Qb.isNum,Qb.isStr,decide_eq_true h.1,decide_eq_true h.2.1,decide_eq_true h.2.2.1,decide_eq_true h.2.2.2.1,decide_eq_true h.2.2.2.2.1,decide_eq_true h.2.2.2.2.2,Bool.true_and,F,H];rfl
 obtain⟨I,F,J,M,s0,s1⟩:=h;go_enter func141,ntmps141;go_wp2;all_goals
  go_ret;refine⟨BR ?_,bna⟩;have z:=d' z;simp_all <;> omega
theorem mZ (k e s q:Int) (b:z10) (w:World) (h:0<=e/\e<=2147483647/\0<=q/\q<=2147483647/\0<=s/\s < 3) (G:k=4):
  Cp 141 #[.agg #[Ej k,Ej e,Ej s,Ej q,.string b]] w λr w'=>Rr r (.bool (Qb.proper k e s q b))/\El w w':=by
 subst G;have F:Hid (Qb.proper 4 e s q b=Qb.Jn b):=by show _= _;simp only[Qb.proper,Qb.isNum,Qb.isStr,decide_eq_true h.1,decide_eq_true h.2.1,decide_eq_true h.2.2.1,decide_eq_true h.2.2.2.1,decide_eq_true h.2.2.2.2.1,decide_eq_true h.2.2.2.2.2,Bool.true_and];rfl
 obtain⟨I,J,M,Q,s0,s1⟩:=h;by_cases h1:(b.size:Int)=1
 .have H:0 < b.size:=by omega
  have z:=y' (UR h1 H);go_enter func141,ntmps141;go_wp2;all_goals
   go_ret;exact⟨BR (by rw[d' F,d' z]),bna⟩
 have z:=y' (WW h1);go_enter func141,ntmps141;go_wp2;all_goals
  go_ret;exact⟨BR (by rw[d' F,d' z]),bna⟩
theorem LD (k e s q:Int) (b:z10) (w:World) (hb:b.size<=9223372036854775807):
  Cp 141 #[.agg #[Ej k,Ej e,Ej s,Ej q,.string b]] w λr w'=>Rr r (.bool (Qb.proper k e s q b))/\El w w':=by
 by_cases h:0<=e/\e<=2147483647/\0<=q/\q<=2147483647/\0<=s/\s < 3
 .by_cases z:k=1\/k=5;exact mW k e s q b w h z;by_cases h2:k=2;exact mX k e s q b w h h2 hb;by_cases h3:k=3;exact mY k e s q b w h h3;by_cases h4:k=4;exact mZ k e s q b w h h4;have F:Hid (Qb.proper k e s q b=false):=by show _= _;simp[Qb.proper,z,h2,h3,h4]
  have G:(k==1)=false:=by simp;omega
  have b2:(k==2)=false:=by simp;omega
  have H:(k==3)=false:=by simp;omega
  have I:(k==4)=false:=by simp;omega
  have J:(k==5)=false:=by simp;omega
  obtain⟨M,Q,V,Y,s0,s1⟩:=h;clear z h2 h3 h4;go_enter func141,ntmps141;go_wp2;all_goals
   go_ret;exact⟨BR (d' F).symm,bna⟩
 exact eP k e s q b w h
theorem eQ (k e s q:Int) (b:z10) (w:World) (z:Qb.proper k e s q b=true):
  Cp 90 #[.agg #[Ej k,Ej e,Ej s,Ej q,.string b]] w λr w'=>Rr r (.tuple #[.string ⟨(Qb.bytes k e s q b.data.toList).toArray⟩,Ej 0])/\El w w':=by
 obtain⟨_,_,_,_,h5⟩:=BZ z;have G:=λw'=>y' (LD k e s q b w' (by omega));have H:=λw'=>y' (DH k e s q b w' z);rw[z]at G;clear z h5;generalize (⟨(Qb.bytes k e s q b.data.toList).toArray⟩:z10)=S at H ⊢;go_enter func90,ntmps90;go_upto_region 4 with (go_at_call 141;refine Cm (G _) ?_;rintro r w1 ⟨rfl,F⟩);have I:=F.size;simp only[World.size_alloc]at I;obtain⟨Q,V,Y,Z,aa⟩:=(CU w k e s q b 63).below F (by simp);have J:=y' (((z11 w.heap.size w).alloc (z16 _) (.cells #[Ej k,Ej e,Ej s,Ej q,.string b] 63)).trans (F.mono (by simp)));clear F;go_wp2_with (go_at_call 61;refine Cm (H _) ?_;rintro r ab ⟨rfl,M⟩);go_ret2;exact⟨rfl,(d' J).trans (M.mono (by omega))⟩
theorem jQ (k e s q:Int) (b:z10) (w:World) (hb:b.size<=9223372036854775807) (z:Qb.proper k e s q b=false):
  Cp 90 #[.agg #[Ej k,Ej e,Ej s,Ej q,.string b]] w λr w'=>Rr r (.tuple #[.string ⟨#[]⟩,Ej 1])/\El w w':=by
 have F:=λw'=>y' (LD k e s q b w' hb);rw[z]at F;clear z hb;go_enter func90,ntmps90;go_wp2_with (go_at_call 141;refine Cm (F _) ?_;rintro r w1 ⟨rfl,G⟩);go_ret2;exact⟨rfl,bna.trans (G.mono (by simp))⟩
theorem nA (h:Below w p f) (z:w<=a) (F b c d e:Value):
  Below w p (((((f.setCell ⟨a,0,none⟩ F).setCell ⟨a,1,none⟩ b).setCell ⟨a,2,none⟩ c).setCell ⟨a,3,none⟩ d).setCell ⟨a,4,none⟩ e):=
 ((((h.setCell (p:=⟨a,0,none⟩) z F).setCell (p:=⟨a,1,none⟩) z b).setCell (p:=⟨a,2,none⟩) z c).setCell (p:=⟨a,3,none⟩) z d).setCell (p:=⟨a,4,none⟩) z e
theorem KA (h:p.cell? (Ea w q)=some y) (z:a≠w):(p.setCell ⟨a,b,none⟩ u).cell? (Ea w q)=some y:=by
 exact(World.cell?_setCell_other (w:=p) (a:=⟨a,b,none⟩) (b:=⟨w,q,none⟩) (v:=u) (by intro e;injection e with F;exact z F)).trans h
theorem CB (h:p.cell? (Ea w a)=some y) (z:q≠a):(p.setCell ⟨w,q,none⟩ u).cell? (Ea w a)=some y:=by
 exact(World.cell?_setCell_other (w:=p) (a:=⟨w,q,none⟩) (b:=⟨w,a,none⟩) (v:=u) (by intro e;injection e with _ F;exact z F)).trans h
theorem XG (h:Xe p w o V aF aH z) (F:a≠w) (a0 a1 a2 a3 a4:Value):
  Xe (((((p.setCell ⟨a,0,none⟩ a0).setCell ⟨a,1,none⟩ a1).setCell ⟨a,2,none⟩ a2).setCell ⟨a,3,none⟩ a3).setCell ⟨a,4,none⟩ a4) w o V aF aH z:=by
 obtain⟨h0,h1,h2,h3,h4⟩:=h;constructor;all_goals
  refine KA (KA (KA (KA (KA ?_ F) F) F) F) F;assumption
theorem Aj (z:World) (h0:∃v,z.cell? (Ea w 0)=some v) (h1:∃v,z.cell? (Ea w 1)=some v) (h2:∃v,z.cell? (Ea w 2)=some v) (h3:∃v,z.cell? (Ea w 3)=some v) (h4:∃v,z.cell? (Ea w 4)=some v)
  (k e s q:Int) (body:z10):
  Xe (((((z.setCell ⟨w,0,none⟩ (Ej k)).setCell ⟨w,1,none⟩ (Ej e)).setCell ⟨w,2,none⟩ (Ej s)).setCell ⟨w,3,none⟩ (Ej q)).setCell ⟨w,4,none⟩ (.string body)) w k e s q body:=by
 obtain⟨v0,h0⟩:=h0;obtain⟨v1,h1⟩:=h1;obtain⟨F,h2⟩:=h2;obtain⟨v3,h3⟩:=h3;obtain⟨v4,h4⟩:=h4;constructor;exact CB (CB (CB (CB (z99 _ _ _ h0) (by decide)) (by decide)) (by decide)) (by decide);exact CB (CB (CB (z99 _ _ _ (CB h1 (by decide))) (by decide)) (by decide)) (by decide);exact CB (CB (z99 _ _ _ (CB (CB h2 (by decide)) (by decide))) (by decide)) (by decide);exact CB (z99 _ _ _ (CB (CB (CB h3 (by decide)) (by decide)) (by decide))) (by decide);exact z99 _ _ _ (CB (CB (CB (CB h4 (by decide)) (by decide)) (by decide)) (by decide))
theorem eR (S:z10) (w:World) (h:(S.size:Int) < 15):
  Cp 145 #[.string S] w λr w'=>Rr r (.tuple #[CR,.bool false])/\El w w':=by
 go_enter func145,ntmps145;go_wp2;refine z47 (v:=.tuple #[CR,.bool false]) (by simp[results,results145,go_sem,CR]) rfl ⟨rfl,?_⟩;exact bna
def Ii (B:Nat) (v:Value) (w:World):Prop:=∃g,v=Er g 0/\B<=g/\Xe w g 0 0 0 0 ⟨#[]⟩/\∀i,w.frozen? ⟨g,i,none⟩=false
theorem aF' (B:Nat):CL (Ii B):=by
 rintro v w w' ⟨g,rfl,G,z,H⟩ hb;have F:g < w.heap.size:=z69 _ _ z.c0;exact⟨g,rfl,G,z.below hb F,λi=>(hb.frozen (p:=⟨g,i,none⟩) F).trans (H i)⟩
theorem jR (S:z10) (k:Nat) (aS:S.size=k+15) (w:World) (bb:S.size<=9223372036854775807) (F J G M:Int) (Q:z10) (aD:S.extract 11 (k+11)=Q)
  (aT:0<=F/\F < 4294967296) (aU:0<=G/\G < 4294967296)
  (bc:0 < S.size) (bd:5 < S.size) (aE:(S[0].toNat:Int)=F) (aF:(S[5].toNat:Int)=G)
  (au:∀w',Hid (Cp 181 #[.string S,Ej 1] w' λe V=>Rr e (Ej J)/\∃n,V=w'.drewN n))
  (av:∀w',Hid (Cp 181 #[.string S,Ej 6] w' λe V=>Rr e (Ej M)/\∃n,V=w'.drewN n))
  (p:Bool) (ab:∀w',Hid (Cp 141 #[.agg #[Ej F,Ej J,Ej G,Ej M,.string Q]] w' λr V=>Rr r (.bool p)/\El w' V))
  (T:z10) (ax:p=true->∀w',Hid (Cp 61 #[.agg #[Ej F,Ej J,Ej G,Ej M,.string Q]] w' λr V=>Rr r (.string T)/\El w' V)):
  Cp 145 #[.string S] w λr w'=>Rr r (if p=true then .tuple #[.agg #[Ej F,Ej J,Ej G,Ej M,.string Q],.bool (T.toList==S.toList)]else .tuple #[CR,.bool false])/\El w w':=by
 have be:(15:Int)<=(S.size:Int):=by omega
 have i0:(0:Int) < (S.size:Int):=by omega
 have i5:(5:Int) < (S.size:Int):=by omega
 have bf:(4:Int)<=(S.size:Int):=by omega
 have g1:IntKind.i64.wrap ((S.size:Int) - 4)=(k:Int)+11:=by rw[z28];omega
 have bg:(S.size:Int) - 4=(k:Int)+11:=by omega
 have bh:IntKind.i64.wrap ((k:Int)+11)=(k:Int)+11:=by rw[z28];omega
 have t1:((k:Int)+11).toNat=k+11:=by omega
 have bi:(11:Int)<=(k:Int)+11:=by omega
 have bj:(k:Int)+11<=(S.size:Int):=by omega
 have bk:=GQ aT;have bl:=GQ aU;have bm:k+11<=S.size:=by omega
 clear aS;go_enter func145,ntmps145;go_upto_region 3 with fail;refine Z'
  [Ev (.string S),Ev (.int .u8 F),Ei F,Ev (.string S),Ei J,Ev (.string S),Ev (.int .u8 G),Ei G,
   Ev (.string S),Ei M,Ev (.string S),Ev (.string S),Ei S.size,Ei ((k:Int)+11),Ev (.string Q),
   Ev (.agg #[Ej F,Ej J,Ej G,Ej M,.string Q]),Ii (w.heap.size+1),Et]
  [[0],[1011],[2012],[0],[4014],[0],[6016],[7017],[0],[9019],[0],[0],[12022],[13023],[11021,14024],[3013,5015,8018,10020,15025],[],[17004,16026]]
  [12,13,14,15,16,17,18,19,20,21,22,23,24,25,26,27,5,0]
  [4,1,6,16,999]
  17 _ rfl rfl ?_ ?_ (hst:=by repeat' (first|exact Y' _|exact aF' _|exact aa'|exact trivial|apply z13))
 .refine⟨?_,?_,?_,?_,?_,?_,?_,?_,?_,?_,?_,?_,?_,?_,?_,?_,?_,trivial⟩;all_goals
   intro a x hb aV;have Y:=hb.size;simp only[World.size_alloc]at Y;clear hb;simp[J']at aV;try go_simp
   try exact z11 _ _
  refine Cm (au _) ?_;rintro r w1 ⟨rfl,n2,rfl⟩;exact⟨rfl,z36 (z11 _ _) _⟩;refine Cm (av _) ?_;rintro r w1 ⟨rfl,n2,rfl⟩;exact⟨rfl,z36 (z11 _ _) _⟩;exact⟨_,rfl,bna,_,rfl,Y,CU _ _ _ _ _ _ _,by intro i;simp⟩
 intro f x hb aG;simp only[AJ,List.take]at aG;obtain⟨_,_,_,_,_,_,_,_,_,_,_,_,_,_,_,aW,⟨g,aX,bn,aH,H⟩,_⟩:=aG;have Y:=hb.size;simp only[World.size_alloc]at Y;have aI:=(CU w 0 0 0 0 ⟨#[]⟩ 63).below hb (by simp);have aJ:∀i,x.frozen? ⟨w.heap.size,i,none⟩=false:=λi=>(hb.frozen (p:=⟨w.heap.size,i,none⟩) (by simp)).trans (by simp);have aK:g < x.heap.size:=z69 _ _ aH.c0;have aL:=y' (((z11 w.heap.size w).alloc (z16 _) (.cells #[Ej 0,Ej 0,Ej 0,Ej 0,.string ⟨#[]⟩] 63)).trans (hb.mono (by simp)));obtain⟨aM,aN,aO,aP,aQ⟩:=aH;have ay:=H 0;have az:=H 1;have aA:=H 2;have Z:=H 3;have aB:=H 4;clear hb H;simp only[V',aW,aX];have bo:g≠w.heap.size:=by omega
 go_simp;go_upto_region 4 with fail;refine G' (λX=>Xe X w.heap.size 0 0 0 0 ⟨#[]⟩/\Xe X g F J G M Q/\(∀i,X.frozen? ⟨w.heap.size,i,none⟩=false)/\El w X/\g < X.heap.size) ⟨?_,?_,?_,?_,?_⟩ ?_;exact XG aI (by omega) _ _ _ _ _;exact Aj _ ⟨_,aM⟩ ⟨_,aN⟩ ⟨_,aO⟩ ⟨_,aP⟩ ⟨_,aQ⟩ _ _ _ _ _;intro i;simp[aJ];exact nA (d' aL) (by omega) _ _ _ _ _;simpa using aK;clear aI aJ aK aL aM aN aO aP aQ ay az aA Z aB Y;rintro X ⟨z0,f0,H,ac,aC⟩;obtain⟨ad,ah,ai,aj,ak⟩:=id f0;cases p
 .go_upto_if 30 with (go_at_call 141;refine Cm (ab _) ?_;rintro r ao ⟨rfl,I⟩)
  obtain⟨bp,bq,br,bt,bu⟩:=z0.below I (by omega);have z:∀i,ao.frozen? ⟨w.heap.size,i,none⟩=false:=λi=>(I.frozen (p:=⟨w.heap.size,i,none⟩) (by simp;omega)).trans (H i);have ay:=z 0;have az:=z 1;have aA:=z 2;have Z:=z 3;have aB:=z 4;have aq:=ac.trans (I.mono (by omega));clear z I z0 f0 H ad ah ai aj ak ab ac aC ax au av aE aF aD;go_wp2;refine z47 (v:=.tuple #[CR,.bool false]) (by simp[results,results145,go_sem,CR, *]) rfl ⟨rfl,?_⟩;exact DY aq _ _ _ _ _
 go_upto_region 7 with (go_at_call 141;refine Cm (ab _) ?_;rintro r ao ⟨rfl,I⟩)
 have f3:=f0.below I aC;have z3:=z0.below I (by omega);have Z:∀i,ao.frozen? ⟨w.heap.size,i,none⟩=false:=λi=>(I.frozen (p:=⟨w.heap.size,i,none⟩) (by simp;omega)).trans (H i);have aq:=ac.trans (I.mono (by omega));have s3:=I.size;have aY:g < ao.heap.size:=by omega
 have aR:=y' (ax trivial);clear I z0 f0 H ad ah ai aj ak ab ac aC ax au av aE aF aD;obtain⟨ad,ah,ai,aj,ak⟩:=id f3;go_upto_region 8 with (go_at_call 61;refine Cm (d' aR _) ?_;rintro r aZ ⟨rfl,aa⟩);obtain⟨u0,u1,u2,u3,u4⟩:=f3.below aa aY;obtain⟨z0,bw,bz,bA,z4⟩:=z3.below aa (by omega);have z:∀i,aZ.frozen? ⟨w.heap.size,i,none⟩=false:=λi=>(aa.frozen (p:=⟨w.heap.size,i,none⟩) (by simp;omega)).trans (Z i);have ay:=z 0;have az:=z 1;have aA:=z 2;have Z:=z 3;have aB:=z 4;have ba:=aq.trans (aa.mono (by omega));clear z aa f3 z3 ad ah ai aj ak aR aq;go_wp2;refine z47 (v:=.tuple #[.agg #[Ej F,Ej J,Ej G,Ej M,.string Q],.bool (T.toList==S.toList)]) (by simp[results,results145,go_sem, *]) rfl ⟨rfl,?_⟩;exact DY ba _ _ _ _ _
theorem jS (S:z10) (k:Nat) (z:S.size=k+15):S.extract 11 (k+11)=Jp S.data.toList:=by
 apply wL;rw[ByteArray.data_extract];unfold Jp;apply Ai;have hl:S.data.toList.length - 4=k+11:=by
  have:S.data.toList.length=S.size:=by simp
  omega
 rw[hl];simp[List.extract_eq_take_drop,List.drop_take]
theorem UV (S:z10):S.toList=S.data.toList:=Na S
theorem vM (S:z10) (i:Nat) (h:i < S.size):S.data.toList.getD i 0=S[i]:=by
 have hl:i < S.data.toList.length:=by simpa using h
 rw[z15,z17 hl];rfl
def QX (l:List UInt8):Bool:=decide (15<=l.length) &&Qb.proper (Jk l) (Jf l) (Qs l) (Xh l) (Jp l)
def FZ (l:List UInt8):Value:=if QX l=true then LR l else CR
theorem IR (h:Qb.reads r=true):FZ r=LR r:=by
 unfold Qb.reads at h;rw[z56]at h;have h2:=h.1;unfold Qb.whole at h2;rw[z56]at h2;unfold FZ QX;rw[h2.1,h.2];rfl
theorem LF (l:List UInt8):∃k e s q b,FZ l=.agg #[Ej k,Ej e,Ej s,Ej q,.string b]:=by
 unfold FZ;split;exact⟨_,_,_,_,_,rfl⟩;exact⟨_,_,_,_,_,rfl⟩
theorem NI (S:z10) (w:World) (H:S.size<=9223372036854775807):
  Cp 145 #[.string S] w λr w'=>Rr r (.tuple #[FZ S.data.toList,.bool (Qb.reads S.data.toList)])/\El w w':=by
 have V:S.data.toList.length=S.size:=by simp
 by_cases Y:S.size < 15;refine(eR S w (by omega)).mono ?_;rintro r w' ⟨rfl,hb⟩;have F:Qb.reads S.data.toList=false:=by unfold Qb.reads Qb.whole;rw[z53 (by omega)];simp
 have G:FZ S.data.toList=CR:=by unfold FZ QX;rw[z53 (by omega)];simp
 exact⟨by rw[F,G],hb⟩;obtain⟨k,I⟩:∃k,S.size=k+15:=⟨S.size - 15,by omega⟩;have k1:=QP S.data.toList;have k3:=ND S.data.toList;have M:(Jp S.data.toList).size<=9223372036854775807:=by show((S.data.toList.take (S.data.toList.length - 4)).drop 11).toArray.size<= _;rw[Iw,z97,z71];omega
 refine(jR S k I w H (Jk S.data.toList) (Jf S.data.toList) (Qs S.data.toList) (Xh S.data.toList) (Jp S.data.toList) (jS S k I) ⟨k1.1,by omega⟩ ⟨k3.1,by omega⟩
  (by omega) (by omega) (by unfold Jk;rw[vM S 0 (by omega)]) (by unfold Qs;rw[vM S 5 (by omega)])
  (λw'=>II S 1 w' (by omega) H) (λw'=>II S 6 w' (by omega) H) _ (λw'=>LD _ _ _ _ _ w' M) _ (λz w'=>DH _ _ _ _ _ w' z)).mono ?_
 rintro r w' ⟨rfl,hb⟩;cases z:Qb.proper (Jk S.data.toList) (Jf S.data.toList) (Qs S.data.toList) (Xh S.data.toList) (Jp S.data.toList);have F:Qb.reads S.data.toList=false:=by unfold Qb.reads;rw[z,Bool.and_false]
 have G:FZ S.data.toList=CR:=by unfold FZ QX;rw[z];simp
 exact⟨by rw[F,G];rfl,hb⟩;have G:FZ S.data.toList=LR S.data.toList:=by unfold FZ QX;rw[z,z49 (by omega)];rfl
 have F:((⟨(Qb.bytes (Jk S.data.toList) (Jf S.data.toList) (Qs S.data.toList) (Xh S.data.toList) (Jp S.data.toList).data.toList).toArray⟩:z10).toList==S.toList)=Qb.reads S.data.toList:=by unfold Qb.reads;rw[z,Bool.and_true,UV,UV];cases J:Qb.whole S.data.toList;apply beq_eq_false_iff_ne.2;intro e;obtain⟨h1,h2,h3,h4,h5⟩:=BZ z;have:=(parts_bytes (k:=Jk S.data.toList) (e:=Jf S.data.toList) (s:=Qs S.data.toList) (q:=Xh S.data.toList) (b:=Jp S.data.toList) (by omega) (by omega) (by omega) (by omega) (by omega)).1;have Q:Qb.bytes (Jk S.data.toList) (Jf S.data.toList) (Qs S.data.toList) (Xh S.data.toList) (Jp S.data.toList).data.toList=S.data.toList:=e;rw[Q,J]at this;cases this;apply zP.2;simpa using whole_bytes J
 exact⟨by rw[if_pos rfl,F,G];rfl,hb⟩
theorem eS (S:z10) (w:World) (k e s q:Int) (b:z10) (ok:Bool)
  (G:∀w',Hid (Cp 145 #[.string S] w' λr M=>Rr r (.tuple #[.agg #[Ej k,Ej e,Ej s,Ej q,.string b],.bool ok])/\El w' M)):
  Cp 93 #[.string S] w λr w'=>Rr r (if ok=true then .tuple #[.agg #[Ej k,Ej e,Ej s,Ej q,.string b],Ej 0]else .tuple #[CR,Ej 1])/\El w w':=by
 go_enter func93,ntmps93;go_upto_region 2 with (go_at_call 145;refine Cm (G _) ?_;rintro r w1 ⟨rfl,F⟩);have Q:=F.size;simp only[World.size_alloc]at Q;have z0:=(CU w 0 0 0 0 ⟨#[]⟩ 63).below F (by simp);have z:∀i,w1.frozen? ⟨w.heap.size,i,none⟩=false:=λi=>(F.frozen (p:=⟨w.heap.size,i,none⟩) (by simp)).trans (by simp);have H:=((z11 w.heap.size w).alloc (z16 _) (.cells #[Ej 0,Ej 0,Ej 0,Ej 0,.string ⟨#[]⟩] 63)).trans (F.mono (by simp));refine G' (λX=>Xe X w.heap.size 0 0 0 0 ⟨#[]⟩/\Xe X w1.heap.size k e s q b/\(∀i,X.frozen? ⟨w.heap.size,i,none⟩=false)/\El w X) ⟨?_,?_,?_,?_⟩ ?_;exact z0.below bna (by omega);exact CU _ _ _ _ _ _ _;intro i;have:=z i;rw[<-this];apply World.frozen?_alloc_old;show w.heap.size≠w1.heap.size;omega;exact H.alloc (by omega) _;clear z0 z H F G;rintro X ⟨⟨z0,V,Y,z3,z4⟩,⟨Z,aa,ab,ac,ad⟩,z,I⟩;have ah:=z 0;have ai:=z 1;have aj:=z 2;have ak:=z 3;have ao:=z 4;have J:=y' I;clear z I;cases ok;all_goals go_wp2
 refine z47 (v:=.tuple #[CR,Ej 1]) (by simp[results,results93,go_sem,CR, *]) rfl ⟨rfl,?_⟩;exact DY (d' J) _ _ _ _ _;refine z47 (v:=.tuple #[.agg #[Ej k,Ej e,Ej s,Ej q,.string b],Ej 0]) (by simp[results,results93,go_sem, *]) rfl ⟨rfl,?_⟩;exact DY (d' J) _ _ _ _ _
theorem eT (S:z10) (w:World) (F:S.size<=9223372036854775807):
  Cp 93 #[.string S] w λr w'=>Rr r (if Qb.reads S.data.toList=true then .tuple #[LR S.data.toList,Ej 0]else .tuple #[CR,Ej 1])/\El w w':=by
 obtain⟨k,e,s,q,b,z⟩:=LF S.data.toList;have G:∀w',Hid (Cp 145 #[.string S] w' λr H=>Rr r (.tuple #[.agg #[Ej k,Ej e,Ej s,Ej q,.string b],.bool (Qb.reads S.data.toList)])/\El w' H):=λw'=>by have:=NI S w' F;rw[z]at this;exact this
 refine(eS S w k e s q b _ G).mono ?_;rintro r w' ⟨rfl,hb⟩;refine⟨?_,hb⟩;split;rename_i h;rw[<-IR h,z];rfl
def Row (A:Nat->Prop) (w:World) (e:TypeId) (v:Value) (xs:List Value):Prop:=w.ownsRow 0 e 1 v xs.length xs/\∀g,v.ownBlock=some g->A g
theorem Q' {w w':World} {B:Nat} {e:TypeId} {v:Value} {n:Nat} {xs:List Value} (h:w.ownsRow B e 1 v n xs) (z:∀g,v.ownBlock=some g->w'.heap[g]? =w.heap[g]?):w'.ownsRow B e 1 v n xs:=by
 obtain⟨h1,h2⟩:=h;refine⟨h1,?_⟩;rcases h2 with h2|⟨g,cap,F,rfl,hb,G,r⟩;exact .inl h2;exact .inr ⟨g,cap,F,rfl,hb,by rw[z g rfl];exact G,r⟩
theorem Row.shape {A:Nat->Prop} (h:Row A p j y C):∃z cap,y=.slice z C.length cap/\C.length<=cap/\cap<=maxLen/\
  (0 < C.length->∃g,z=some ⟨g,0,none⟩/\A g/\∀i,i < C.length->p.cell? (Ea g i)=C[i]?):=by
 obtain⟨h0,F⟩:=h;have G:=h0;obtain⟨h1,h2⟩:=h0;rcases h2 with ⟨j,h2⟩|⟨g,cap,J,j,M,Q,H,I,_,V⟩;exact⟨none,0,by rw[h2];exact j,by omega,by unfold maxLen;omega,λh=>by omega⟩;subst j;exact⟨_,cap,rfl,H,I,λ_=>⟨g,rfl,F g rfl,λi hi=>z59 G i (by omega)⟩⟩
structure App (w w':World) (v v':Value):Prop where
 grown:w.grownBy w' v.ownBlock
 where_:v'.ownBlock=v.ownBlock\/(w.grownBy w' none/\∃g,v'.ownBlock=some g/\w.heap.size<=g)
theorem nB {P:Program} (w:World) (t ty e:TypeId) (i:TypeInfo) (I:Value) (bytes:Nat) (Q:P.underlying t=some (.slice e)) (hi:P.info? e=some i) (ac:i.zero=some I) (J:i.size=1) (ad:i.bytes=bytes) (ah:I.cells.size=1)
  (v:Value) (xs:List Value) (ai:w.ownsRow 0 e 1 v xs.length xs) (G:Addr) (u:Value) (hu:w.cell? G=some u) (h1:u.oneCell'=true) (hb:(xs.length+1) * bytes<=140737488355328) (hl:xs.length+1<=140737488355328):
  ∃v' w',(Builtin.append_ #[t,t] ty #[v,.slice (some G) 1 1]).run P w=.ok v' w'/\w'.ownsRow 0 e 1 v' (xs++[u]).length (xs++[u])/\w'.ownsRow 0 e 1 v xs.length xs/\App w w' v v':=by
 have V:∀j x,[u][j]? =some x->w.cell? (G.add j)=some x:=by
  intro j x hj;match j,hj with
  |0,hj=>simp at hj;subst hj;simpa[Addr.add]using hu
 have ak:xs.length+1<=maxLen:=by unfold maxLen;omega
 have Y:=ai;obtain⟨ao,aq⟩:=ai;rcases aq with ⟨rfl,h0⟩|⟨g,cap,aF,rfl,aG,au,av,aH,aI,aJ⟩;have M:xs=[]:=z68 h0;subst M;have H:=run_append_nil (P:=P) w t ty e i I Q hi ac G 1 1 [u] (by simp[J]) V (by omega) (by omega) (by rw[ad];simp at hb;omega);have Z:=wM w 1 0 e;refine⟨_,_,H,⟨by simp,.inr ⟨w.heap.size,grownCap w 1 0 e,_,rfl,by omega,z19 w.drew _,by simpa using Z,Fv w 1 0 e (by unfold maxLen;omega),?_,?_⟩⟩,z20 _ _ _ _,⟨⟨rfl,rfl,rfl,by simp,λk z _=>z35 w.drew _ k z⟩,.inr ⟨⟨rfl,rfl,rfl,by simp,λk z _=>z35 w.drew _ k z⟩,w.heap.size,rfl,by omega⟩⟩⟩;simp[size_zeroCells,ah];omega;simp;by_cases ax:xs.length+1<=cap;obtain⟨w',H,aj,ay⟩:=run_append_fits (P:=P) w 0 t ty e i 1 Q hi J g xs.length cap xs Y G 1 1 [u] (by simp) V (by intro x M;simp at M;subst M;exact h1) ax;refine⟨_,w',H,by simpa using aj,?_,⟨ay,.inl rfl⟩⟩;obtain⟨_,aa⟩:=aj;rcases aa with ⟨aa,_⟩|⟨g',aK,az,F,aL,ab,aM,aA,aB,aC⟩;cases aa;injection F with F _ aD;injection F with F;injection F with F;subst F aD;refine⟨ao,.inr ⟨g,cap,az,rfl,by omega,ab,av,aA,aB,?_⟩⟩;have:=congrArg (List.take xs.length) aC;rw[Ah]at this;simpa[Nat.min_eq_left]using this;have holds:∀j x,xs[j]? =some x->w.cell? ((⟨g,0,none⟩:Addr).add j)=some x:=World.ownsRow.cells Y rfl;have H:=run_append_grow (P:=P) w t ty e i I Q hi ac ⟨g,0,none⟩ xs.length cap xs (by simp[J]) holds G 1 1 [u] (by simp[J]) V (by omega) (by omega) (by rw[ad];exact growslice_fits (by omega) (by omega));have Z:=wM w (xs.length+1) cap e;refine⟨_,_,H,⟨by simp,.inr ⟨w.heap.size,grownCap w (xs.length+1) cap e,_,by simp,by omega,z19 w.drew _,by simpa using Z,Fv w (xs.length+1) cap e ak,?_,?_⟩⟩,?_,⟨⟨rfl,rfl,rfl,by simp,λk z _=>z35 w.drew _ k z⟩,.inr ⟨⟨rfl,rfl,rfl,by simp,λk z _=>z35 w.drew _ k z⟩,w.heap.size,rfl,by omega⟩⟩⟩;simp[size_zeroCells,ah];omega;simp only[Array.toList_append,List.append_assoc];rw[<-z39,Iq];exact List.take_left;have aE:g < w.heap.size:=z12 au;exact Q' Y (λg' ab=>by cases ab;exact z35 w.drew _ g aE)
theorem bv3 {a b c:Int} (z:0<=a/\a < 256) (hb:0<=b/\b < 256) (F:0<=c/\c < 256):∃l:List UInt8,l.length=3/\bv l=[.int .u8 a,.int .u8 b,.int .u8 c]:=by
 refine⟨[UInt8.ofNat (a.toNat % 256)]++[UInt8.ofNat (b.toNat % 256)]++[UInt8.ofNat (c.toNat % 256)],rfl,?_⟩;rw[FN,FN,MC z.1 z.2,MC hb.1 hb.2,MC F.1 F.2];rfl
theorem Ak (m:Int) (w:World):
  Cp 142 #[Ej m] w λr w'=>∃s:z10,r=.returned (.string s)/\s.size=3/\El w w':=by
 obtain⟨l,hl,hb⟩:=bv3 (a:=35) (b:=m % 256) (c:=m / 256 % 256) (by omega) (by omega) (by omega);have z:=mV (w:=w) (l:=l) hl;rw[hb]at z;have F:Hid ((⟨l.toArray⟩:z10).size=3):=by show _= _;simp[ByteArray.size,hl]
 clear hb hl;generalize (⟨l.toArray⟩:z10)=s at z F;go_enter func142,ntmps142;go_wp2;go_ret;exact⟨s,rfl,d' F,bna⟩
def gW (m i:Int):Int:=wrap64 (m+wrap64 (i * wrap64 (1+wrap64 (m.tdiv 256)))) % 256
theorem UW (m i:Int):0<=gW m i/\gW m i < 256:=⟨Int.emod_nonneg _ (by decide),Int.emod_lt_of_pos _ (by decide)⟩
theorem nC (m i:Int) (w:World):
  Cp 182 #[Ej m,Ej i] w λr w'=>Rr r (.int .u8 (gW m i))/\w'=w:=by
 go_enter func182,ntmps182;go_wp2;go_ret;exact⟨rfl,rfl⟩
def BAt (A:Nat->Nat->Prop) (w:World) (v:Value) (l:List UInt8):Prop:=
 ∃z cap,v=.slice z l.length cap/\l.length<=cap/\l.length<=9223372036854775807/\
  (0 < l.length->∃b off,z=some ⟨b,off,none⟩/\(∀i,i < l.length->A b (off+i))/\∀i,i < l.length->w.cell? (Ea b (off+i))=some (.int .u8 (l.getD i 0).toNat))
theorem BAt.keep {A:Nat->Nat->Prop} {w w':World} (h:BAt A w y r) (F:∀b o,A b o->w'.cell? (Ea b o)=w.cell? (Ea b o)):BAt A w' y r:=by
 obtain⟨G,cap,H,h1,h2,h3⟩:=h;refine⟨G,cap,H,h1,h2,λh0=>?_⟩;obtain⟨b,off,e,z,I⟩:=h3 h0;exact⟨b,off,e,z,λi hi=>(F b _ (z i hi)).trans (I i hi)⟩
theorem BAt.mono {A:Nat->Nat->Prop} {w:World} {v:Value} (h:BAt A w v r) (z:∀b o,A b o->aW b o):BAt aW w v r:=by
 obtain⟨F,cap,G,h1,h2,h3⟩:=h;refine⟨F,cap,G,h1,h2,λh0=>?_⟩;obtain⟨b,off,e,hb,H⟩:=h3 h0;exact⟨b,off,e,λi hi=>z _ _ (hb i hi),H⟩
def Rd (A:Nat->Nat->Prop) (w:World) (v:Value) (xs:List Value):Prop:=
 ∃z cap,v=.slice z xs.length cap/\xs.length<=cap/\cap<=maxLen/\(0 < xs.length->∃g,z=some ⟨g,0,none⟩/\∀i,i < xs.length->A g i/\w.cell? (Ea g i)=xs[i]?)
theorem Rd.keep {A:Nat->Nat->Prop} {w w':World} (h:Rd A w y C) (F:∀b o,A b o->w'.cell? (Ea b o)=w.cell? (Ea b o)):Rd A w' y C:=by
 obtain⟨G,cap,H,h1,h2,h3⟩:=h;refine⟨G,cap,H,h1,h2,λh0=>?_⟩;obtain⟨g,e,z⟩:=h3 h0;exact⟨g,e,λi hi=>⟨(z i hi).1,(F _ _ (z i hi).1).trans (z i hi).2⟩⟩
theorem Rd.mono {A:Nat->Nat->Prop} {w:World} {v:Value} (h:Rd A w v C) (F:∀b o,A b o->aW b o):Rd aW w v C:=by
 obtain⟨G,cap,H,h1,h2,h3⟩:=h;refine⟨G,cap,H,h1,h2,λh0=>?_⟩;obtain⟨g,e,z⟩:=h3 h0;exact⟨g,e,λi hi=>⟨F _ _ (z i hi).1,(z i hi).2⟩⟩
theorem ON {A:Nat->Nat->Prop} (h:p.ownsRow 0 j 1 y C.length C) (F:∀g,y.ownBlock=some g->∀i,i < C.length->A g i):Rd A p y C:=by
 obtain⟨G,cap,rfl,h1,h2,h3⟩:=(show Row (λg=>y.ownBlock=some g) p j y C from⟨h,λg z=>z⟩).shape;refine⟨G,cap,rfl,h1,h2,λh0=>?_⟩;obtain⟨g,rfl,z,H⟩:=h3 h0;exact⟨g,rfl,λi hi=>⟨F g z i hi,H i hi⟩⟩
theorem BAt.str {A:Nat->Nat->Prop} (h:BAt A p y r):(convert 48 9 y).run prog p=.ok (.string ⟨r.toArray⟩) p:=by
 obtain⟨z,cap,rfl,h1,h2,h3⟩:=h;by_cases h0:0 < r.length;obtain⟨b,off,rfl,_,F⟩:=h3 h0;exact JX rfl F;have:r=[]:=z68 (by omega);subst this;cases z with
 |none=>exact run_convert_bytes_nil (P:=prog) p 48 5 underlying48 underlying5 0 cap 9 underlying9
 |some a=>have G:=run_convert_bytes_string (P:=prog) p 48 9 5 (some a) 0 cap underlying48 underlying5 underlying9;have hb:=run_bytesToString (P:=prog) p a 0 cap [] (by simp[loadCells,loadCellsFrom]);exact G.trans hb
def Zs (A:Nat->Nat->Prop) (w:World) (p:Nat):Prop:=
 ∃ (z F fv:Value) (H:Nat) (l:List UInt8) (G:List Value) (m:Int) (t:z10),
  (∀i,i < 6->A p i)/\(∀i,i < 6->w.cell? (Ea p i)= #[z,F,fv,Ej m,.string t,.string ⟨l.toArray⟩][i]?)/\Rd A w z (List.replicate H (.string t))/\BAt A w F l/\
   Rd A w fv G/\∀f∈G,BAt A w f t.data.toList
theorem Zs.keep {A:Nat->Nat->Prop} {w w':World} {p:Nat} (h:Zs A w p) (z:∀b o,A b o->w'.cell? (Ea b o)=w.cell? (Ea b o)):Zs A w' p:=by
 obtain⟨G,H,fv,I,l,J,m,t,F,M,h1,h2,h3,h4⟩:=h;exact⟨G,H,fv,I,l,J,m,t,F,λi hi=>(z p i (F i hi)).trans (M i hi),h1.keep z,h2.keep z,h3.keep z,λf Q=>(h4 f Q).keep z⟩
theorem Zs.mono {A:Nat->Nat->Prop} {w:World} {p:Nat} (h:Zs A w p) (z:∀b o,A b o->aW b o):Zs aW w p:=by
 obtain⟨F,G,fv,H,l,I,m,t,J,M,h1,h2,h3,h4⟩:=h;exact⟨F,G,fv,H,l,I,m,t,λi hi=>z _ _ (J i hi),M,h1.mono z,h2.mono z,h3.mono z,λf Q=>(h4 f Q).mono z⟩
theorem D' {w:World} {p i:Nat} {c:Array Value} {e:TypeId} {fr:Nat×Nat} (h:w.heap[p]? =some (.cells c e fr)):w.cell? (Ea p i)=c[i]? :=by simp[World.cell?,h]
theorem GK (h:p.heap[w]? =some (.cells l j aA)):p.cell? (Ea w 0)=l[0]? /\p.cell? (Ea w 1)=l[1]? :=⟨D' h,D' h⟩
theorem LG {v:Value} (h:p.heap[w]? =some (.cells ⟨y::v::C⟩ j aA)):p.cell? (Ea w 0)=some y/\p.cell? (Ea w 1)=some v:=GK h
theorem DQ (h:p.heap[w]? =some (.cells l j aA)):p.cell? (Ea w 0)=l[0]? /\p.cell? (Ea w 1)=l[1]? /\p.cell? (Ea w 2)=l[2]? :=⟨D' h,D' h,D' h⟩
theorem PM (h:p.heap[w]? =some (.cells ⟨y::u::R::C⟩ j aA)):p.cell? (Ea w 0)=some y/\p.cell? (Ea w 1)=some u/\p.cell? (Ea w 2)=some R:=DQ h
theorem gX (h:p.heap[w]? =some (.cells l j aA)):p.cell? (Ea w 0)=l[0]? /\p.cell? (Ea w 1)=l[1]? /\p.cell? (Ea w 2)=l[2]? /\p.cell? (Ea w 3)=l[3]? :=⟨D' h,D' h,D' h,D' h⟩
theorem Kg (h:p.heap[w]? =some (.cells ⟨y::u::R::aI::C⟩ j aA)):p.cell? (Ea w 0)=some y/\p.cell? (Ea w 1)=some u/\p.cell? (Ea w 2)=some R/\p.cell? (Ea w 3)=some aI:=gX h
theorem GL (h:p.heap[w]? =some (.cells l j aA)):p.cell? (Ea w 0)=l[0]? /\p.cell? (Ea w 1)=l[1]? /\p.cell? (Ea w 2)=l[2]? /\p.cell? (Ea w 3)=l[3]? /\p.cell? (Ea w 4)=l[4]? :=⟨D' h,D' h,D' h,D' h,D' h⟩
theorem GW (h:p.heap[w]? =some (.cells ⟨y::u::R::aI::aM::C⟩ j aA)):p.cell? (Ea w 0)=some y/\p.cell? (Ea w 1)=some u/\p.cell? (Ea w 2)=some R/\p.cell? (Ea w 3)=some aI/\p.cell? (Ea w 4)=some aM:=GL h
theorem Mc (h:p.heap[w]? =some (.cells l j aA)):p.cell? (Ea w 0)=l[0]? /\p.cell? (Ea w 1)=l[1]? /\p.cell? (Ea w 2)=l[2]? /\p.cell? (Ea w 3)=l[3]? /\p.cell? (Ea w 4)=l[4]? /\p.cell? (Ea w 5)=l[5]? :=⟨D' h,D' h,D' h,D' h,D' h,D' h⟩
theorem H' {w:World} {p i:Nat} {c:Array Value} {e:TypeId} (h:Eh w p c e):w.frozen? ⟨p,i,none⟩=false:=by simp[World.frozen?,h]
theorem sI (A:Nat->Nat->Prop) (p:Nat) (w:World) (h:Zs A w p):
  Cp 100 #[Er p 0] w λr w'=>Rr r (.bool true)/\∃n,w'=w.drewN n:=by
 obtain⟨ak,ao,fv,H,l,z,m,t,Y,F,h1,h2,h3,h4⟩:=h;have c0:=F 0 (by omega);have c1:=F 1 (by omega);have c2:=F 2 (by omega);have c4:=F 4 (by omega);have c5:=F 5 (by omega);simp at c0 c1 c2 c4 c5;obtain⟨aq,au,rfl,Z,aa,M⟩:=h1;obtain⟨av,ax,rfl,ay,ab,Q⟩:=h3;have ac:=y' M;have ad:=y' Q;have ah:=y' h4;have hs:=λn=>(h2.keep (w':=w.drewN n) (λ_ _ _=>rfl)).str;rw[z57]at c0 Z;have n1:H<=9223372036854775807:=by unfold maxLen at aa;omega
 have n2:z.length<=9223372036854775807:=by unfold maxLen at ab;omega
 clear M Q h4 F h2 Y;go_enter func100,ntmps100;go_wp2;go_loopw[3] (λi wr=>∃k:Nat,k<=H/\i=.int .i64 k/\∃n,wr=w.drewN n) (λi _=>H - (intOf i).toNat)
 case atStart=>exact⟨0,z54 _,rfl,0,rfl⟩
 case round=>
  obtain⟨k,az,rfl,n,rfl⟩:=hrel;by_cases V:k < H
  .obtain⟨g,rfl,G⟩:=(d' ac) (by rw[z57];omega);have I:=(G k (by rw[z57];exact V)).2;rw[Mb,if_pos V]at I;clear G;go_wp2;go_quiet (fail);go_wp2;go_roundw
   case rel=>exact⟨k+1,by omega,by go_num,n+nq,by simp⟩
   case measure=>simp[intOf];omega
  go_wp2;go_quiet (fail);go_wp2;go_loopw[4] (λi wr=>∃k:Nat,k<=z.length/\i=.int .i64 k/\∃n,wr=w.drewN n) (λi _=>z.length - (intOf i).toNat)
  case atStart=>exact⟨0,z54 _,rfl,n+nq,by simp⟩
  case round=>
   obtain⟨k2,aA,rfl,ai,rfl⟩:=hrel;by_cases J:k2 < z.length
   .obtain⟨g,rfl,G⟩:=(d' ad) (by omega);have I:=(G k2 J).2;have hst:=λn=>((d' ah) z[k2] (z86 J)).keep (w':=w.drewN n) (λ_ _ _=>rfl);have aj:=λn=>(hst n).str;rw[z17 J]at I;clear G hst;generalize z[k2]=aB at I aj;go_wp2;go_quiet (fail);go_wp2;go_roundw
    case rel=>exact⟨k2+1,by omega,by go_num,ai+nq,by simp⟩
    case measure=>simp[intOf];omega
   go_wp2;go_ret;exact⟨rfl,_,rfl⟩
def C' (p:Nat):Value:=.pointer (some ⟨p,0,none⟩)
structure Jm (A:Nat->Nat->Prop) (w:World) (wb:Nat) (as_ ss:Value) (hv:Value) (hs:List Nat):Prop where
 blk:w.heap[wb]? =some (.cells #[as_,ss,hv] 91 (0,0))
 row:w.ownsRow 0 158 1 hv hs.length (hs.map C')
 all:∀p∈hs,Zs A w p
theorem xA (A:Nat->Nat->Prop) (w:World) (G:Nat) (Z aa H:Value) (hs:List Nat) (h:Jm A w G Z aa H hs):
  Cp 62 #[.pointer (some ⟨G,0,none⟩)] w λr w'=>Rr r (.bool true)/\∃n,w'=w.drewN n:=by
 obtain⟨I,J,M⟩:=h;have c2:=Bi 2 I;simp at c2;have Q:Row (λ_=>True) w 158 H (hs.map C'):=⟨by rw[z42];exact J,λ_ _=>trivial⟩;obtain⟨ah,ai,rfl,h1,h2,h3⟩:=Q.shape;rw[z42]at c2 h1 h3;have ab:=y' h3;have ac:=y' M;have n1:hs.length<=9223372036854775807:=by unfold maxLen at h2;omega
 clear h3 M J Q I;go_enter func62,ntmps62;go_wp2;go_loopw[3,4] (λi _ wr=>∃k:Nat,k<=hs.length/\i=.int .i64 k/\∃n,wr=w.drewN n) (λi _ _=>hs.length - (intOf i).toNat)
 case atStart=>exact⟨0,z54 _,rfl,0,rfl⟩
 case round=>
  obtain⟨k,aj,rfl,n,rfl⟩:=hrel;by_cases z:k < hs.length
  .obtain⟨g,rfl,_,V⟩:=(d' ab) (by omega);have F:=V k z;rw[z77,z17 z]at F;simp only[Option.map_some,C']at F;have Y:=λn=>y' (sI A hs[k] (w.drewN n) (((d' ac) hs[k] (z86 z)).keep (λ_ _ _=>rfl)));clear V;generalize hs[k]=ak at F Y;go_wp2_with (go_at_call 100;refine Cm (Y _) ?_;rintro r w' ⟨rfl,ad,rfl⟩);go_roundw
   case rel=>exact⟨k+1,by omega,by go_num,n+ad,by simp⟩
   case measure=>simp[intOf];omega
  go_wp2;go_ret;exact⟨rfl,_,rfl⟩
theorem Md:(prog.info? 9).map (λi=>(i.zero,i.size,i.bytes))=some (some (.string ⟨#[]⟩),1,16):=by kernel_rfl
theorem Kh:(prog.info? 48).map (λi=>(i.zero,i.size,i.bytes))=some (some En,1,24):=by kernel_rfl
theorem Al:(prog.info? 158).map (λi=>(i.zero,i.size,i.bytes))=some (some (.pointer none),1,8):=by kernel_rfl
theorem vN {K:Act->World->Prop} (s x:Operand) (t:TypeId) (H:J.op=.call {callee:=.builtin .append,args:= #[s,x],argTypes:= #[t,t]})
  (e:TypeId) (z:Value) (bytes:Nat) (I:prog.underlying t=some (.slice e)) (M:(prog.info? e).map (λi=>(i.zero,i.size,i.bytes))=some (some z,1,bytes)) (Q:z.cells.size=1)
  (v:Value) (xs:List Value) (V:p.ownsRow 0 e 1 v xs.length xs) (hs:G.eval s=v) (F:Addr) (u:Value) (Y:G.eval x=.slice (some F) 1 1) (hu:p.cell? F=some u) (h1:u.oneCell'=true)
  (hb:(xs.length+1) * bytes<=140737488355328) (hl:xs.length+1<=140737488355328)
  (h:∀v' w',w'.ownsRow 0 e 1 v' (xs++[u]).length (xs++[u])->w'.ownsRow 0 e 1 v xs.length xs->App p w' v v'->K (G.put J.dst v') w'):J.wp prog G p K aB:=by
 obtain⟨i0,hi,Z,aa,ab⟩:=jL M;obtain⟨v',w',ac,h2,h3,h4⟩:=nB (P:=prog) p t J.type e i0 z bytes I hi Z aa ab Q v xs V F u hu h1 hb hl;unfold Oper.wp execOp;simp only[H,resolve,invoke,builtin,Sem.run_bind,Sem.run_pure,Result.andThen_ok,List.map_toArray,List.map_cons,List.map_nil,hs,Y,ac];exact h v' w' h2 h3 h4
theorem DV {rest:List Oper} (H:J.guard=none) (s x:Operand) (t:TypeId) (I:J.op=.call {callee:=.builtin .append,args:= #[s,x],argTypes:= #[t,t]})
  (e:TypeId) (z:Value) (bytes:Nat) (M:prog.underlying t=some (.slice e)) (Q:(prog.info? e).map (λi=>(i.zero,i.size,i.bytes))=some (some z,1,bytes)) (V:z.cells.size=1)
  (v:Value) (xs:List Value) (Y:p.ownsRow 0 e 1 v xs.length xs) (hs:G.eval s=v) (F:Addr) (u:Value) (Z:G.eval x=.slice (some F) 1 1) (hu:p.cell? F=some u) (h1:u.oneCell'=true)
  (hb:(xs.length+1) * bytes<=140737488355328) (hl:xs.length+1<=140737488355328)
  (h:∀v' w',w'.ownsRow 0 e 1 v' (xs++[u]).length (xs++[u])->w'.ownsRow 0 e 1 v xs.length xs->App p w' v v'->wpList prog aC aB rest (G.put J.dst v') w'):wpList prog aC aB (J::rest) G p:=
 jK H λ_ hK=>vN s x t I e z bytes M Q V v xs Y hs F u Z hu h1 hb hl λv' w' h2 h3 h4=>hK _ _ (h v' w' h2 h3 h4)
theorem xB {K:Act->World->Prop} (H:J.guard=none) (s x:Operand) (t:TypeId) (I:J.op=.call {callee:=.builtin .append,args:= #[s,x],argTypes:= #[t,t]})
  (e:TypeId) (z:Value) (bytes:Nat) (M:prog.underlying t=some (.slice e)) (Q:(prog.info? e).map (λi=>(i.zero,i.size,i.bytes))=some (some z,1,bytes)) (V:z.cells.size=1)
  (v:Value) (xs:List Value) (Y:p.ownsRow 0 e 1 v xs.length xs) (hs:G.eval s=v) (F:Addr) (u:Value) (Z:G.eval x=.slice (some F) 1 1) (hu:p.cell? F=some u) (h1:u.oneCell'=true)
  (hb:(xs.length+1) * bytes<=140737488355328) (hl:xs.length+1<=140737488355328)
  (h:∀v' w',w'.ownsRow 0 e 1 v' (xs++[u]).length (xs++[u])->w'.ownsRow 0 e 1 v xs.length xs->App p w' v v'->K (G.put J.dst v') w'):if Region.wanted J (yielded aC G.tmps)=true then J.wp prog G p K aB else bQ:=by
 rw[if_pos (by simp[Region.wanted,H])];exact vN s x t I e z bytes M Q V v xs Y hs F u Z hu h1 hb hl h
theorem AX (h:p.ownsRow 0 j 1 y w C) (hb:p.heap[a]? =some (.cells l aT aA)) (F:j≠aT):y.ownBlock≠some a:=by
 intro z;obtain⟨_,h2⟩:=h;rcases h2 with ⟨rfl,_⟩|⟨g,cap,H,rfl,_,G,_⟩;cases z;cases z;rw[G]at hb;injection hb with hb;injection hb with _ hb _;exact F hb
theorem BS (h:p.ownsRow 0 j 1 y w C) (hn:0 < w):∃g cap,y=Es g 0 w cap:=by
 obtain⟨_,h2⟩:=h;rcases h2 with ⟨_,h2⟩|⟨g,cap,z,j,_⟩;omega;exact⟨g,cap,j⟩
theorem EW (h:App f B y u) (F:∀w,w < p.heap.size->f.heap[w]? =p.heap[w]?) (hs:p.heap.size<=f.heap.size) (z:p.heap[w]? =some aU) (G:y.ownBlock≠some w):B.heap[w]? =some aU:=by
 have H:=z12 z;rw[h.grown.block w (by omega) (λe=>G e.symm),F w H];exact z
theorem IJ (h:App f B y u) (H:∀k,k < p.heap.size->f.heap[k]? =p.heap[k]?) (hs:p.heap.size<=f.heap.size)
  (I:p.ownsRow 0 j 1 y w C) (z:p.ownsRow 0 aT 1 R a aO) (J:j≠aT):B.ownsRow 0 aT 1 R a aO:=by
 refine Q' z (λg F=>?_);have V:=(z14 z g F).2;obtain⟨_,h2⟩:=id z;rcases h2 with ⟨rfl,_⟩|⟨g',cap,Y,rfl,_,G,_⟩;cases F;cases F;have M:g' < p.heap.size:=z12 G;rw[h.grown.block g' (by omega) (λQ=>AX I G J Q.symm),H g' M]
theorem AA {w:World} {q j:Nat} {c:Array Value} {e:TypeId} {fr:Nat×Nat} {v:Value} (h:w.heap[q]? =some (.cells c e fr)):(w.setCell ⟨q,j,none⟩ v).heap[q]? =some (.cells (c.setIfInBounds j v) e fr):=by
 simp[World.setCell,Array.getElem?_modify,h]
theorem AG {j:Nat} {v:Value} (h:a≠w):(p.setCell ⟨w,j,none⟩ v).heap[a]? =p.heap[a]? :=Below.heap_setCell p ⟨w,j,none⟩ v a h
theorem EK {w:World} {q j:Nat} {c:Array Value} {e z:TypeId} {fr:Nat×Nat} {u v:Value} {n:Nat} {xs:List Value} (h:w.ownsRow 0 e 1 v n xs) (F:w.heap[q]? =some (.cells c z fr)) (G:e≠z):
  (w.setCell ⟨q,j,none⟩ u).ownsRow 0 e 1 v n xs:=Q' h (λg H=>AG (λI=>AX h F G (by rw[H,I])))
def Loc (w:World) (v z:Value):Prop:=z.ownBlock=none\/z.ownBlock=v.ownBlock\/∃g,z.ownBlock=some g/\w.heap.size<=g
structure Mid (w X:World) (p q:Nat) (cp cq:Array Value) (tv:Value) (ts:List Value) (bv':Value) (l:List UInt8) (fv:Value) (fs:List Value) (tv2:Value) (ts2:List Value) (bv2:Value) (l2:List UInt8) (fv2:Value) (fs2:List Value):Prop where
 qnew:w.heap.size<=q
 pb:X.heap[p]? =some (.cells cp 160 (0,0))
 qb:X.heap[q]? =some (.cells cq 160 (0,0))
 t:X.ownsRow 0 9 1 tv ts.length ts
 b:X.ownsRow 0 5 1 bv' (bv l).length (bv l)
 f:X.ownsRow 0 48 1 fv fs.length fs
 t2:X.ownsRow 0 9 1 tv2 ts2.length ts2
 b2:X.ownsRow 0 5 1 bv2 (bv l2).length (bv l2)
 f2:X.ownsRow 0 48 1 fv2 fs2.length fs2
 lt:Loc w tv tv2
 lb:Loc w bv' bv2
 lf:Loc w fv fv2
 os:X.os=w.os
 tape:X.tape=w.tape
 output:X.output=w.output
 size:w.heap.size<=X.heap.size
 rest:∀k,k < w.heap.size->tv.ownBlock≠some k->bv'.ownBlock≠some k->fv.ownBlock≠some k->X.heap[k]? =w.heap[k]?
theorem Mid.below {w X G:World} {p q:Nat} {H I:Array Value} {J M fv Q V Y:Value} {Z aa ts2 ab:List Value} {l ac:List UInt8} (z:Mid w X p q H I J Z M l fv aa Q ts2 V ac Y ab) (h:El X G):
  Mid w G p q H I J Z M l fv aa Q ts2 V ac Y ab:=by
 have F:∀ {e:TypeId} {v:Value} {n:Nat} {xs:List Value},X.ownsRow 0 e 1 v n xs->G.ownsRow 0 e 1 v n xs:=λr=>Q' r (λg ah=>h.block g (z14 r g ah).2);exact⟨z.qnew,(h.block p (z12 z.pb)).trans z.pb,(h.block q (z12 z.qb)).trans z.qb,F z.t,F z.b,F z.f,F z.t2,F z.b2,F z.f2,z.lt,z.lb,z.lf,h.os.trans z.os,h.tape.trans z.tape,h.output.trans z.output,
  z26 z.size h.size,λk ad h1 h2 h3=>(h.block k (z21 ad z.size)).trans (z.rest k ad h1 h2 h3)⟩
theorem Mid.set {j:Nat} (z:Mid p f w a l aN y C u r R aO aI bB aM aR aP bY) (F:w≠a) (v:Value):
  Mid p (f.setCell ⟨a,j,none⟩ v) w a l (aN.setIfInBounds j v) y C u r R aO aI bB aM aR aP bY:=
 ⟨z.qnew,(AG F).trans z.pb,AA z.qb,EK z.t z.qb (by decide),EK z.b z.qb (by decide),EK z.f z.qb (by decide),EK z.t2 z.qb (by decide),EK z.b2 z.qb (by decide),EK z.f2 z.qb (by decide),z.lt,z.lb,z.lf,z.os,z.tape,z.output,
  by rw[z80];exact z.size,λk G h1 h2 h3=>(AG (by have:=z.qnew;omega)).trans (z.rest k G h1 h2 h3)⟩
theorem IK {w:World} (hs:w.heap.size<=p.heap.size) (z:App p f y u):Loc w y u:=by
 rcases z.where_ with h|⟨_,g,h,F⟩;exact .inr (.inl h);exact .inr (.inr ⟨g,h,z26 hs F⟩)
theorem Am (h:Below w p f) (z:w<=f.heap.size):Below w p (f.alloc aU).drew:=
 h.trans ⟨rfl,rfl,rfl,by simp,λk F=>z35 f aU k (z21 F z)⟩
theorem vO (w:World) (v:Value):Loc w v En:=.inl rfl
theorem An (z:El p f) (F:App f B y aI) (I:p.heap.size<=a)
  (J:Eh B w l 160) (M:Eh B a aN 160) (H:p.ownsRow 0 9 1 y C.length C) (hb:p.ownsRow 0 5 1 u (bv r).length (bv r)) (Q:p.ownsRow 0 48 1 R aO.length aO)
  (V:B.ownsRow 0 9 1 aI bB.length bB) (Y:B.ownsRow 0 9 1 y C.length C):Mid p B w a l aN y C u r R aO aI bB En [] En []:=
 ⟨I,J,M,Y,IJ F (λk G=>z.block k G) z.size H hb (by decide),IJ F (λk G=>z.block k G) z.size H Q (by decide),V,z20 _ _ _ _,z20 _ _ _ _,IK z.size F,vO _ _,vO _ _,
  F.grown.os.trans z.os,F.grown.tape.trans z.tape,F.grown.output.trans z.output,z26 z.size F.grown.size,
  λk G h1 _ _=>(F.grown.block k (z21 G z.size) (λe=>h1 e.symm)).trans (z.block k G)⟩
theorem Mid.bytes {w X W:World} {p q:Nat} {I J:Array Value} {M G fv Q ac V v1:Value} {Y Z ts2 aa:List Value} {l ad H:List UInt8} (z:Mid w X p q I J M Y G l fv Z Q ts2 ac ad V aa) (F:App X W G v1)
  (ah:W.ownsRow 0 5 1 v1 (bv H).length (bv H)) (ai:W.ownsRow 0 5 1 G (bv l).length (bv l)):Mid w W p q I J M Y G l fv Z Q ts2 v1 H V aa:=
 ⟨z.qnew,EW F (λ_ _=>rfl) (z16 _) z.pb (AX z.b z.pb (by decide)),EW F (λ_ _=>rfl) (z16 _) z.qb (AX z.b z.qb (by decide)),
  IJ F (λ_ _=>rfl) (z16 _) z.b z.t (by decide),ai,IJ F (λ_ _=>rfl) (z16 _) z.b z.f (by decide),IJ F (λ_ _=>rfl) (z16 _) z.b z.t2 (by decide),ah,IJ F (λ_ _=>rfl) (z16 _) z.b z.f2 (by decide),
  z.lt,IK z.size F,z.lf,F.grown.os.trans z.os,F.grown.tape.trans z.tape,F.grown.output.trans z.output,z26 z.size F.grown.size,
  λk ab h1 h2 h3=>(F.grown.block k (z21 ab z.size) (λe=>h2 e.symm)).trans (z.rest k ab h1 h2 h3)⟩
theorem Mid.Ym (z:Mid p f w a l aN y C u r R aO aI bB aM aR aP bY) (F:App f B R aJ)
  (H:B.ownsRow 0 48 1 aJ dK.length dK) (I:B.ownsRow 0 48 1 R aO.length aO):Mid p B w a l aN y C u r R aO aI bB aM aR aJ dK:=
 ⟨z.qnew,EW F (λ_ _=>rfl) (z16 _) z.pb (AX z.f z.pb (by decide)),EW F (λ_ _=>rfl) (z16 _) z.qb (AX z.f z.qb (by decide)),
  IJ F (λ_ _=>rfl) (z16 _) z.f z.t (by decide),IJ F (λ_ _=>rfl) (z16 _) z.f z.b (by decide),I,IJ F (λ_ _=>rfl) (z16 _) z.f z.t2 (by decide),IJ F (λ_ _=>rfl) (z16 _) z.f z.b2 (by decide),H,
  z.lt,z.lb,IK z.size F,F.grown.os.trans z.os,F.grown.tape.trans z.tape,F.grown.output.trans z.output,z26 z.size F.grown.size,
  λk G h1 h2 h3=>(F.grown.block k (z21 G z.size) (λe=>h3 e.symm)).trans (z.rest k G h1 h2 h3)⟩
def Ji (B:Nat) (w:World) (v:Value) (l:List UInt8):Prop:=
 ∃g cap C fr,v=Es g 0 l.length cap/\B<=g/\l.length<=cap/\l.length<=9223372036854775807/\w.heap[g]? =some (.cells C 5 fr)/\∀i,i < l.length->C[i]? =some (.int .u8 (l.getD i 0).toNat)
theorem Ji.keep {B:Nat} {w w':World} {v:Value} {l:List UInt8} (h:Ji B w v l) (z:∀g O,w.heap[g]? =some O->B<=g->(∃C fr,O=.cells C 5 fr)->w'.heap[g]? =some O):Ji B w' v l:=by
 obtain⟨g,cap,C,fr,e,h1,h2,h3,h4,h5⟩:=h;exact⟨g,cap,C,fr,e,h1,h2,h3,z g _ h4 h1 ⟨C,fr,rfl⟩,h5⟩
theorem Ji.mono {B B':Nat} {w:World} {v:Value} (h:Ji B w v r) (z:B'<=B):Ji B' w v r:=by
 obtain⟨g,cap,C,fr,e,h1,h2⟩:=h;exact⟨g,cap,C,fr,e,z26 z h1,h2⟩
theorem Ji.set {v:Value} {j:Nat} (h:Ji w p y r) (z:p.heap[a]? =some (.cells l 160 (0,0))):Ji w (p.setCell ⟨a,j,none⟩ v) y r:=by
 refine h.keep (λg O F _ G=>?_);obtain⟨C,fr,rfl⟩:=G;have H:g≠a:=by rintro rfl;rw[F]at z;injection z with z;injection z with _ z _;exact absurd z (by decide)
 exact(AG H).trans F
theorem Ji.app (h:Ji w p y r) (F:App f B u R) (G:∀k,k < p.heap.size->f.heap[k]? =p.heap[k]?) (hs:p.heap.size<=f.heap.size) (H:p.ownsRow 0 48 1 u a C):Ji w B y r:=by
 refine h.keep (λg O z _ I=>?_);obtain⟨J,fr,rfl⟩:=I;exact EW F G hs z (AX H z (by decide))
theorem NJ (w:World) (s:z10) (hs:s.size<=140737488355328):
  ∃g cap w',(convert 9 48 (.string s)).run prog w=.ok (Es g 0 s.size cap) w'/\Ji w.heap.size w' (Es g 0 s.size cap) s.data.toList/\El w w':=by
 refine⟨_,_,_,run_bytes_of_string w 9 48 5 s underlying9 underlying48 underlying5,?_,?_⟩;have hl:s.data.toList.length=s.size:=by simp
 refine⟨w.heap.size,_,bytesRow s (grownCap w s.size 0 5),((bytesRow s (grownCap w s.size 0 5)).size,(bytesRow s (grownCap w s.size 0 5)).size+1),by rw[hl],z16 _,by rw[hl];exact wM w s.size 0 5,by omega,?_,λi hi=>?_⟩;show(w.heap.push _)[w.heap.size]? = _;simp;rw[hl]at hi;have z:i < s.data.size:=hi;unfold bytesRow;rw[Array.getElem?_append_left (by simpa using z)];have F:s.data[i]? =some s.data[i]:=z75 z;simp[F];exact((z11 _ _).drew).alloc (z16 _) _
theorem Ki (l:List UInt8) (x:Int):(⟨l.toArray⟩:z10)++s1 x=⟨(l++[UInt8.ofNat (x.toNat % 256)]).toArray⟩:=by
 apply wL;simp[s1]
def jT (m:Int) (t:z10) (B:Nat) (v:Value) (w:World):Prop:=∃q,v=Er q 0/\B<=q/\w.heap[q]? =some (.cells #[En,En,En,Ej m,.string t,.string ⟨#[]⟩] 160 (0,0))
theorem aB' (m:Int) (t:z10) (B:Nat):CL (jT m t B):=by
 rintro v w w' ⟨q,rfl,z,h⟩ hb;exact⟨q,rfl,z,by rw[hb.block q (z12 h)];exact h⟩
theorem sJ (p:Nat) (w:World) (F V fv:Value) (z:Nat) (l:List UInt8) (G:List Value) (m:Int) (t:z10)
  (au:Eh w p #[F,V,fv,Ej m,.string t,.string ⟨l.toArray⟩] 160)
  (bd:w.ownsRow 0 9 1 F z (List.replicate z (.string t))) (be:w.ownsRow 0 5 1 V l.length (bv l)) (I:w.ownsRow 0 48 1 fv G.length G)
  (cn:z<=1000) (cp:l.length<=140737488354000) (z3:G.length<=1000) (z4:t.size<=3):
  Cp 144 #[Er p 0] w λr w'=>∃ (q:Nat) (bf aI bg v6:Value) (b:UInt8),r=.returned (C' q)/\
   Mid w w' p q #[F,V,fv,Ej m,.string t,.string ⟨l.toArray⟩] #[bf,aI,bg,Ej m,.string t,.string ⟨(l++[b]).toArray⟩] F (List.replicate z (.string t)) V l fv G bf (List.replicate z (.string t)++[.string t]) aI (l++[b]) bg (G++[v6])/\
   ∃B,w.heap.size<=B/\(∀g,aI.ownBlock=some g->g < B)/\Ji B w' v6 t.data.toList:=by
 obtain⟨c0,c1,c2,c3,c4,c5⟩:=Mc au;simp at c0 c1 c2 c3 c4 c5;have ab:=z12 au;have bh:=y' au;have aJ:=y' bd;have aK:=y' be;have aL:=y' I;clear au bd be I;go_enter func144,ntmps144;go_upto_region 1 with fail;refine AI
  [Ev (C' p),Ev (C' p),Ep p 3,Ei m,Ev (C' p),Ev (C' p),Ep p 4,Ev (.string t),
   Ev (.agg #[En,En,En,Ej m,.string t,.string ⟨#[]⟩]),jT m t w.heap.size,jT m t w.heap.size]
  [[0],[1006],[2007],[3008],[0],[5010],[6011],[7012],[4009,8013],[9014],[10015]] [7,8,9,10,11,12,13,14,15,16,4] [3,1,2,10,999] ?_ ?_ (hst:=by repeat' (first|exact Y' _|exact aB' _ _ _|exact trivial|apply z13))
 .refine⟨?_,?_,?_,?_,?_,?_,?_,?_,?_,?_,?_,trivial⟩;all_goals
   intro a x hb I;have bT:=hb.size;have cq:x.cell? (Ea p 3)=some (Ej m):=Bc hb ab c3;have bi:x.cell? (Ea p 4)=some (.string t):=Bc hb ab c4;clear hb;simp[J',C']at I;try go_simp
   try exact z11 _ _
  all_goals first
   |exact⟨rfl,z11 _ _⟩
   |exact⟨_,rfl,z11 _ _,I⟩
   |exact⟨_,rfl,bna,_,rfl,bT,by show(x.heap.push _)[x.heap.size]? = _;simp⟩
 intro f x hb ac;simp only[AJ]at ac;obtain⟨_,_,_,_,_,_,_,_,_,_,⟨q,bU,bV,av⟩,_⟩:=ac;have aM:=y' ((hb.block p ab).trans (d' bh));have ax:∀ (v:Value) (e:TypeId) (n:Nat) (xs:List Value),w.ownsRow 0 e 1 v n xs->x.ownsRow 0 e 1 v n xs:=λv e n xs h=>Q' h (λg aN=>hb.block g (z14 h g aN).2);have ay:Hid (x.ownsRow 0 9 1 F (List.replicate z (Value.string t)).length (List.replicate z (Value.string t))):=by have:=ax _ _ _ _ (d' aJ);rw[z57];exact this
 have bW:=y' (ax _ _ _ _ (d' aK));have bX:=y' (ax _ _ _ _ (d' aL));have aO:=y' hb;have bY:=Bc hb ab c0;have bi:=Bc hb ab c4;have bj:¬q=p:=by omega
 have bk:=Bi 0 av;have bZ:=H' (i:=0) av;simp at bk;have aP:=y' av;clear hb ax c0 c1 c2 c3 c4 c5 av;simp only[V',bU];go_upto_region 2 with fail;go_region_held3 (λw'=>w'.cell? (Ea p 0)=some F/\w'.cell? (Ea p 4)=some (.string t))
  (go_keep)
  ((refine xB rfl (.tmp 20) (.tmp 25) 33 rfl 9 (.string ⟨#[]⟩) 16 underlying33 Md rfl F (List.replicate z (.string t)) (z52 (d' ay) _) rfl ⟨x.heap.size,0,none⟩ (.string t) rfl (by simp) rfl (by rw[z57];omega) (by rw[z57];omega) ?_;intro v1 w1 aQ bl az;obtain⟨g1,J,bm⟩:=BS aQ (by simp);rw[show(List.replicate z (Value.string t)++[Value.string t]).length=z+1 by simp]at bm;subst bm;have aA:=EW az (λk ad=>z35 _ _ _ ad) (by simp) (d' aM) (AX (d' ay) (d' aM) (by decide));have aB:=EW az (λk ad=>z35 _ _ _ ad) (by simp) (d' aP) (AX (d' ay) (d' aP) (by decide));have bn:=Bi 0 aA;have bo:=Bi 4 aA;have bp:=Bi 0 aB;have ca:=H' (i:=0) aB;simp at bn bo bp;have bq:=y' aA;have br:=y' aB;have bt:=y' aQ;have bu:=y' bl;have bw:=y' az;clear aA aB aQ bl az))
 go_upto_region 3 with fail
 refine G' (λX=>Mid w X p q #[F,V,fv,Ej m,.string t,.string ⟨l.toArray⟩] #[Es g1 0 (z+1) J,En,En,Ej m,.string t,.string ⟨#[]⟩]
  F (List.replicate z (.string t)) V l fv G (Es g1 0 (z+1) J) (List.replicate z (.string t)++[.string t]) En [] En []) ?_ ?_
 exact(An (Am (d' aO) (d' aO).size) (d' bw) bV (d' bq) (d' br) (by rw[z57];exact d' aJ) (by rw[AC];exact d' aK) (d' aL) (d' bt) (d' bu)).set (j:=0) (λe=>bj e.symm) _;intro X Y;have aR:p≠q:=λe=>bj e.symm;clear bw bt bu bq br ay bW bX aM aP aO bY bi bn bo bp ca bk bZ bh aJ aK aL;generalize ah:(#[Es g1 0 (z+1) J,En,En,Ej m,.string t,.string ⟨#[]⟩]:Array Value)=ai at Y;have bz:ai.size=6:=by rw[<-ah];rfl
 have d1:=Bi 1 Y.pb;have d3:=Bi 3 Y.pb;simp at d1 d3;obtain⟨M,Q,bA,_,cr,_⟩:=Row.shape (A:=λ_=>True) ⟨Y.b,λ_ _=>trivial⟩;rw[AC]at bA;subst bA;have Z:=y' Y;clear Y;go_quiet (first|(go_at_call 182;refine z58 (nC _ _ _)));go_upto_region 4 with fail;refine G' (λaj=>Mid w aj p q #[F,.slice M l.length Q,fv,Ej m,.string t,.string ⟨l.toArray⟩] ai
  F (List.replicate z (.string t)) (.slice M l.length Q) l fv G (Es g1 0 (z+1) J) (List.replicate z (.string t)++[.string t]) En [] En []) ?_ ?_
 exact(d' Z).below ⟨rfl,rfl,rfl,z16 _,λ_ _=>rfl⟩;clear d1 d3 Z;generalize cb:gW m l.length=H;have ak:=UW m l.length;rw[cb]at ak;intro aj aS;have d1:=Bi 1 aS.pb;simp at d1;have Z:=y' aS;clear aS;go_upto_region 5 with (at_builtin;(refine DV rfl (.tmp 43) (.tmp 45) 48 rfl 5 (.int .u8 0) 1 underlying48 UQ rfl (.slice M l.length Q) (bv l) (z52 (d' Z).b _) rfl ⟨aj.heap.size,0,none⟩ (.int .u8 H) rfl (by simp) rfl (by rw[AC];omega) (by rw[AC];omega) ?_;intro cs cu aC bB bC;rw[<-MC ak.1 ak.2,<-FN]at aC;obtain⟨g2,ao,bD⟩:=BS aC (by rw[AC];simp);rw[show(bv (l++[UInt8.ofNat (H.toNat % 256)])).length=l.length+1 by simp[AC]]at bD;subst bD;have aD:=((d' Z).below ((z11 aj.heap.size aj).alloc (z16 _) _)).bytes bC aC bB;have cc:=H' (i:=1) aD.qb;have aT:=Bi 1 aD.qb;rw[<-ah]at aT;simp at aT;have bE:=y' aD;clear aC bB bC aD));refine G' (λbF=>Mid w bF p q #[F,.slice M l.length Q,fv,Ej m,.string t,.string ⟨l.toArray⟩] (ai.setIfInBounds 1 (Es g2 0 (l.length+1) ao))
  F (List.replicate z (.string t)) (.slice M l.length Q) l fv G (Es g1 0 (z+1) J) (List.replicate z (.string t)++[.string t]) (Es g2 0 (l.length+1) ao) (l++[UInt8.ofNat (H.toNat % 256)]) En []) ?_ ?_
 exact(d' bE).set aR _;generalize aE:ai.setIfInBounds 1 (Es g2 0 (l.length+1) ao)=aU;have cd:aU.size=6:=by rw[<-aE];simp[bz]
 clear d1 Z bE cc aT;have cv:l.length+1<=9223372036854775807:=by omega
 have ce:s1 H=s1 H:=rfl;have cw:=vL H;have cx:=λv w=>NH ak.1 ak.2 (v:=v) (w:=w);clear ce;intro bF aq;have bG:=z12 aq.pb;have cf:=z12 aq.qb;have d5:=Bi 5 aq.pb;simp at d5;have bH:=y' aq;clear aq;refine Z'
  [Ev (C' q),Ev (C' p),Ev (C' p),Ep p 5,Ev (.string ⟨l.toArray⟩),Ev (.int .u8 H),sG H,Ev (.string (s1 H)),Ev (.string (⟨l.toArray⟩++s1 H)),Ev (C' q),Ep q 5,Et]
  [[3],[0],[2050],[3051],[4052],[4],[6054],[7055],[5053,8056],[1049],[10058],[11059,9057]] [50,51,52,53,54,55,56,57,58,59,60,0] [49,11,999]
  11 _ rfl rfl ?_ ?_ (hst:=by repeat' (first|exact Y' _|exact ak' _|exact aa'|exact trivial|apply z13))
 .refine⟨?_,?_,?_,?_,?_,?_,?_,?_,?_,?_,?_,trivial⟩;all_goals
   intro a x hb I;have cy:x.cell? (Ea p 5)=some (.string ⟨l.toArray⟩):=Bc hb bG d5;clear hb;simp[J',C']at I;try go_simp
   try exact z11 _ _
  all_goals first
   |exact⟨rfl,z11 _ _⟩
   |exact⟨_,rfl,bna,_,rfl,by simp⟩
   |(rw[if_neg (by omega)];go_simp;exact z11 _ _)
 intro f5 cz hb ac;simp only[AJ,List.take]at ac;obtain⟨_,_,_,_,_,_,_,_,bI,_,bJ,_⟩:=ac;have aF:=(d' bH).below (hb.mono (z16 _));have cg:=H' (i:=5) aF.qb;have aV:=Bi 5 aF.qb;rw[<-aE,<-ah]at aV;simp at aV;have bK:=y' aF;clear aF hb;simp only[V',bI,bJ];go_simp;go_upto_region 6 with fail;refine G' (λaG=>Mid w aG p q #[F,.slice M l.length Q,fv,Ej m,.string t,.string ⟨l.toArray⟩] (aU.setIfInBounds 5 (.string (⟨l.toArray⟩++s1 H)))
  F (List.replicate z (.string t)) (.slice M l.length Q) l fv G (Es g1 0 (z+1) J) (List.replicate z (.string t)++[.string t]) (Es g2 0 (l.length+1) ao) (l++[UInt8.ofNat (H.toNat % 256)]) En []) ?_ ?_
 exact(d' bK).set aR _;rw[<-aE,<-ah];clear ah aE bz cd ai aU aV cg bK bH d5 bG cf bI bJ;intro aG aa;have d4:=Bi 4 aa.pb;simp at d4;obtain⟨aW,aX,aY,cA,bL,bM⟩:=NJ aG t (by omega);have ch:=aa.size;have aZ:=aa.below (bM.mono (z16 _));have ci:=Bi 2 aZ.pb;simp at ci;have cB:=aa.qnew;have cj:=y' (λg aN=>(z14 aa.b2 g aN).2);have ba:=y' aZ;have ck:=y' bL;clear aa aZ bL bM;go_upto_region 7 with fail;go_upto_region 8 with (at_builtin;(refine DV rfl (.tmp 69) (.tmp 71) 32 rfl 48 En 24 underlying32 Kh rfl fv G (z52 (d' ba).f _) rfl ⟨aY.heap.size,0,none⟩ (Es aW 0 t.size aX) rfl (by simp) rfl (by omega) (by omega) ?_;intro cC cD bb bN bc;obtain⟨bO,bP,bQ⟩:=BS bb (by simp);rw[show(G++[Value.slice (some ⟨aW,0,none⟩) t.size aX]).length=G.length+1 by simp]at bQ;subst bQ;have aH:=((d' ba).below ((z11 aY.heap.size aY).alloc (z16 _) _)).Ym bc bb bN;have bR:=((d' ck).app bc (λk ad=>z35 _ _ _ ad) (by simp) (d' ba).f);have cE:=H' (i:=2) aH.qb;have cl:=Bi 2 aH.qb;simp at cl;have bS:=y' aH;have cm:=y' bR;clear bb bN bc aH bR));go_wp2;go_ret;refine⟨q,Es g1 0 (z+1) J,Es g2 0 (l.length+1) ao,Es bO 0 (G.length+1) bP,Es aW 0 t.size aX,UInt8.ofNat (H.toNat % 256),rfl,?_,aG.heap.size,ch,d' cj,(d' cm).set (d' bS).qb⟩;rw[<-Ki];exact(d' bS).set (j:=2) aR (Es bO 0 (G.length+1) bP)
theorem Kj (l:List UInt8) (k:Nat) (n:Int) (h0:0<=n) (h1:n < 256):bv (l.set k (UInt8.ofNat (n.toNat % 256)))=(bv l).set k (.int .u8 n):=by
 have h:=MC h0 h1;simp[bv]at h ⊢;rw[h]
def MZ (N:Nat) (U:Nat->Prop) (z:Value) (F:Nat) (G:Value) (H:Nat) (fv:Value) (I:Nat) (b o:Nat):Prop:=
 b < N/\¬U b/\(z.ownBlock=some b->o < F)/\(G.ownBlock=some b->o < H)/\(fv.ownBlock=some b->o < I)
theorem LS (h:p.ownsRow 0 j 1 y C.length C) (hb:y.ownBlock=some w) (z:a < C.length):p.cell? (Ea w a)=C[a]? :=by
 obtain⟨g,cap,rfl⟩:=BS h (by omega);cases hb;exact z59 h a (by omega)
theorem BJ {w:World} {e z:TypeId} {v v':Value} {n F b:Nat} {xs G:List Value} (h:w.ownsRow 0 e 1 v n xs) (H:w.ownsRow 0 z 1 v' F G) (I:e≠z) (hb:v.ownBlock=some b):v'.ownBlock≠some b:=by
 obtain⟨_,h2⟩:=h;rcases h2 with ⟨rfl,_⟩|⟨g,cap,M,rfl,_,J,_⟩;cases hb;cases hb;exact AX H J (λe=>I e.symm)
theorem CM {A:Nat->Nat->Prop} {w:World} {v:Value} {l:List UInt8} (h:w.ownsRow 0 5 1 v (bv l).length (bv l)) (F:∀g,v.ownBlock=some g->∀i,i < l.length->A g i):BAt A w v l:=by
 obtain⟨G,cap,rfl,h1,h2,h3⟩:=(show Row (λg=>v.ownBlock=some g) w 5 v (bv l) from⟨h,λg z=>z⟩).shape;rw[AC]at h1 h3 ⊢;refine⟨G,cap,rfl,h1,by unfold maxLen at h2;omega,λh0=>?_⟩;obtain⟨g,rfl,z,H⟩:=h3 h0;exact⟨g,0,rfl,λi hi=>by rw[z45];exact F g rfl i hi,λi hi=>by rw[z45,H i hi,JW hi]⟩
section
variable {w X:World} {p q:Nat} {cp cq:Array Value} {tv bv' fv tv2 bv2 fv2:Value} {ts fs ts2 fs2:List Value} {l l2:List UInt8}
theorem Mid.calm (H:Mid w X p q cp cq tv ts bv' l fv fs tv2 ts2 bv2 l2 fv2 fs2) (U:Nat->Prop) (I:w.ownsRow 0 9 1 tv ts.length ts) (hb:w.ownsRow 0 5 1 bv' (bv l).length (bv l)) (J:w.ownsRow 0 48 1 fv fs.length fs)
  (b o:Nat) (h:MZ w.heap.size U tv ts.length bv' l.length fv fs.length b o):X.cell? (Ea b o)=w.cell? (Ea b o):=by
 obtain⟨h0,_,h1,h2,h3⟩:=h;by_cases z:tv.ownBlock=some b;rw[LS H.t z (h1 z),LS I z (h1 z)];by_cases F:bv'.ownBlock=some b;rw[LS H.b F (by rw[AC];exact h2 F),LS hb F (by rw[AC];exact h2 F)];by_cases G:fv.ownBlock=some b;rw[LS H.f G (h3 G),LS J G (h3 G)];exact z46 (H.rest b h0 z F G)
theorem XH {v z:Value} {b o n n2:Nat} (h:Loc w v z) (hb:b < w.heap.size) (hn:n<=n2) (h1:v.ownBlock=some b->o < n):z.ownBlock=some b->o < n2:=by
 intro e;rcases h with h|h|⟨g,h,F⟩;rw[h]at e;cases e;rw[h]at e;have:=h1 e;omega;rw[h]at e;injection e with e;omega
theorem Mid.more (z:Mid w X p q cp cq tv ts bv' l fv fs tv2 ts2 bv2 l2 fv2 fs2) (U:Nat->Prop) (n1:ts.length<=ts2.length) (n2:l.length<=l2.length) (F:fs.length<=fs2.length)
  (b o:Nat) (h:MZ w.heap.size U tv ts.length bv' l.length fv fs.length b o):MZ X.heap.size U tv2 ts2.length bv2 l2.length fv2 fs2.length b o:=
 ⟨z21 h.1 z.size,h.2.1,XH z.lt h.1 n1 h.2.2.1,XH z.lb h.1 n2 h.2.2.2.1,XH z.lf h.1 F h.2.2.2.2⟩
theorem jU (h:Loc w y u) (z:∀b,N b->b < w.heap.size) (F:∀b,N b->y.ownBlock≠some b):∀b,N b->u.ownBlock≠some b:=by
 intro b hb e;rcases h with h|h|⟨g,h,G⟩;rw[h]at e;cases e;rw[h]at e;exact F b hb e;rw[h]at e;injection e with e;have:=z b hb;omega
end
def DC (s:z10):List UInt8:=s.data.toList++List.replicate 8 201
theorem BM (s:z10):(DC s).length=s.size+8:=by simp[DC]
theorem XI (h:w < z.size):(DC z).getD w 0=z[w]:=by
 have F:w < z.data.toList.length:=by simpa using h
 simp only[DC,List.getD_eq_getElem?_getD,List.getElem?_append_left F,List.getElem?_eq_getElem F];rfl
theorem Ao (h:z.size<=w) (h2:w < z.size+8):(DC z).getD w 0=201:=by
 have F:z.data.toList.length<=w:=by simpa using h
 simp only[DC,List.getD_eq_getElem?_getD,List.getElem?_append_right F,List.getElem?_replicate];rw[if_pos (by simp;omega)];rfl
theorem LU (A:Nat->Nat->Prop) (v:Value) (s:z10) (w:World) (h:BAt A w v (DC s)) (Q:s.size<=140737488354000):
  Cp 94 #[v,.string s] w λr w'=>Rr r (.bool true)/\∃n,w'=w.drewN n:=by
 obtain⟨V,cap,rfl,h1,h2,h3⟩:=h;rw[BM]at h1 h2 h3 ⊢;obtain⟨b,off,rfl,_,F⟩:=h3 (by omega);have H:=y' F;clear F h3;have n1:s.size+8<=9223372036854775807:=by omega
 have n2:(s.size:Int)<=9223372036854775807:=by omega
 go_enter func94,ntmps94;go_wp2;go_loopw[5] (λi wr=>∃k:Nat,k<=s.size+8/\i=.int .i64 k/\∃n,wr=w.drewN n) (λi _=>s.size+8 - (intOf i).toNat)
 case atStart=>exact⟨0,z54 _,rfl,0,rfl⟩
 case round=>
  obtain⟨k,Y,rfl,n,rfl⟩:=hrel;by_cases G:k < s.size+8
  .have z:=(d' H) k G;by_cases I:k < s.size
   .rw[XI I]at z;have J:¬s.size<=k:=(by omega);go_wp2;go_quiet (fail);go_wp2;go_roundw
    case rel=>exact⟨k+1,by omega,by go_num,n+nq,by simp⟩
    case measure=>simp[intOf];omega
   rw[Ao (by omega) G]at z;have J:s.size<=k:=(by omega);have M:((201:UInt8).toNat:Int)=201:=rfl;rw[M]at z;go_wp2;go_quiet (fail);go_wp2;go_roundw
   case rel=>exact⟨k+1,by omega,by go_num,n+nq,by simp⟩
   case measure=>simp[intOf];omega
  go_wp2;go_ret;exact⟨rfl,_,rfl⟩
theorem gY (l:List UInt8):Lib.byteCells l=bv l:=rfl
theorem nD {rest:List Oper} (V:J.guard=none) (d s:Operand)
  (Y:J.op=.call {callee:=.builtin .copy,args:= #[d,s],argTypes:= #[48,9]}) (g n:Nat) (H:List UInt8) (z:z10)
  (Z:p.ownsRow 0 5 1 (Es g 0 n n) n (bv H)) (hd:G.eval d=Es g 0 n n) (hs:G.eval s=.string z) (aa:z.size<=n) (av:H.length=n)
  (h:∀w',w'.ownsRow 0 5 1 (Es g 0 n n) n (bv (z.data.toList++H.drop z.size))->p.grownBy w' (some g)->wpList prog aC aB rest (G.put J.dst (Ej z.size)) w'):
  wpList prog aC aB (J::rest) G p:=by
 refine jK V λK hK=>?_;obtain⟨h1,h2⟩:=id Z;rcases h2 with ⟨h2,_⟩|⟨g',ax,I,e,ab,M,ac,ad,ah,ai⟩;cases h2;injection e with F ay aj;injection F with F;injection F with F;subst F aj;obtain⟨i0,hi,az,ak,aA⟩:=jL UQ;have Q:I.size=n:=by simpa using ah
 have ao:=Lib.run_copy_row_string (P:=prog) p 48 9 J.type 5 g 0 n n z I 5 underlying48 (by rw[hi];simp[ak]) M aa (by omega);unfold Oper.wp execOp;simp only[Y,resolve,invoke,builtin,Sem.run_bind,Sem.run_pure,Result.andThen_ok,List.map_toArray,List.map_cons,List.map_nil,hs,hd,ao];have aq:I.toList=bv H:=by rw[<-ai,z48 (by simp[Q])]
 refine hK _ _ (h _ ⟨by rw[AC];simp;omega,.inr ⟨g,n,_,rfl,ab,z91 p g I _ _ _ M,ac,ad,?_,?_⟩⟩ ⟨rfl,rfl,rfl,by simp,?_⟩);simp[gY,AC,Q];omega;simp only[List.take_zero,List.nil_append,Nat.zero_add,gY,aq];rw[FN,z48 (by simp[AC];omega)];simp[bv];intro k aD au;exact mU p g k _ (λe=>au (by rw[e]))
def NK (s:z10) (j:Nat):List UInt8:=s.data.toList++(List.replicate j 201++List.replicate (8 - j) 0)
theorem jV (s:z10) (h:w<=8):(NK s w).length=s.size+8:=by simp[NK];omega
theorem xC (s:z10) (h:w < 8):(NK s w).set (s.size+w) 201=NK s (w+1):=by
 have hl:s.data.toList.length=s.size:=by simp
 unfold NK;rw[Kb _ _ (by omega),hl,Ka];congr 1;match w,h with
 |0,_=>rfl
 |1,_=>rfl
 |2,_=>rfl
 |3,_=>rfl
 |4,_=>rfl
 |5,_=>rfl
 |6,_=>rfl
 |7,_=>rfl
theorem sK (s:z10):s.data.toList++(List.replicate (s.size+8) (0:UInt8)).drop s.size=NK s 0:=by simp[NK]
theorem xD (s:z10):NK s 8=DC s:=by simp[NK,DC]
theorem Kk (l:List UInt8) (k:Nat):bv (l.set k 201)=(bv l).set k (.int .u8 201):=by simp[bv]
theorem nE (s:z10) (w:World) (ab:s.size<=140737488354000):
  Cp 92 #[.string s] w λr w'=>Rr r (Es w.heap.size 0 (s.size+8) (s.size+8))/\El w w'/\w.heap.size < w'.heap.size/\
   w'.ownsRow 0 5 1 (Es w.heap.size 0 (s.size+8) (s.size+8)) (s.size+8) (bv (DC s)):=by
 have n1:(s.size:Int)+8<=9223372036854775807:=by omega
 obtain⟨n,hn⟩:∃n:Nat,s.size+8=n:=⟨_,rfl⟩;rw[hn];have z:=y' hn;have ac:n<=140737488354008:=by omega
 clear hn;go_enter func92,ntmps92;go_upto_region 2 with (refine QR rfl (.tmp 7) (.tmp 7) rfl 0 .i64 .i64 (s.size+8) (s.size+8) n rfl rfl (by have:=d' z;omega) (by have:=d' z;omega) (by omega) (z54 _) ?_;intro w1 J Y);unfold Qw at J;rw[z57]at J;have ad:=y' J;have ah:=y' Y;clear J Y;go_upto_region 3 with (refine nD rfl (.tmp 9) (.tmp 10) rfl w.heap.size n (List.replicate n 0) s (d' ad) rfl rfl (by have:=d' z;omega) (by simp) ?_;intro ax M Z;rw[<-d' z,sK]at M;have ai:=y' M;have aj:=y' Z;clear M Z);go_wp2;have n2:n<=9223372036854775807:=by omega
 have n0:(n:Int)<=9223372036854775807:=by omega
 clear ac ab n1;go_loopw[4] (λi wr=>∃k j:Nat,j<=8/\s.size+j=k/\i=.int .i64 k/\wr.ownsRow 0 5 1 (.slice (some ⟨w.heap.size,0,none⟩) n n) n (bv (NK s j))/\Below w.heap.size w wr) (λi _=>n - (intOf i).toNat)
 case atStart=>have h1:=d' ah;have h2:=d' aj;have H:=d' ai;rw[d' z]at H;have:=h1.size;exact⟨s.size,0,by omega,by omega,rfl,H,⟨h2.os.trans h1.os,h2.tape.trans h1.tape,h2.output.trans h1.output,z26 h1.size h2.size,λk F=>(h2.block k (by omega) (λe=>by injection e with e;omega)).trans (h1.block k F (λe=>by cases e))⟩⟩
 case round=>
  obtain⟨k,j,hj,F,rfl,G,hb⟩:=hrel;have Q:=d' z;by_cases ay:k < n
  .have aa:=z59 G k (by omega);have az:=Fr G k;have ak:=y' (World.ownsRow.stored G k (.int .u8 201));have V:=y' hb;rw[JW (by rw[jV s hj];omega)]at aa;have ao:=y' F;have aq:=y' hj;clear G hb Q F hj;generalize (((NK s j).getD k 0).toNat:Int)=old at aa;go_wp2;go_roundw
   case rel=>obtain⟨au,I⟩:=d' ak;have F:=d' ao;have hb:=d' V;have Q:=d' z;have hj:=d' aq;have av:j < 8:=(by omega);refine⟨k+1,j+1,by omega,by omega,by go_num,?_,?_⟩;rw[<-xC s av,Kk,F];exact au;exact⟨I.os.trans hb.os,I.tape.trans hb.tape,I.output.trans hb.output,z26 hb.size I.size,λi hi=>(I.block i (z21 hi hb.size) (λe=>by injection e with e;omega)).trans (hb.block i hi)⟩
   case measure=>simp[intOf];omega
  have:j=8:=by omega
  subst this;rw[xD]at G;have H:=y' G;have V:=y' hb;clear G hb Q F;go_wp2;go_ret;exact⟨rfl,d' V,(z14 (d' H) _ rfl).2,d' H⟩
theorem BU (h:p.grownBy f cI):Far (λk=>cI=some k) p f:=⟨h.os,h.tape,h.output,h.size,λk z F=>h.block k z (λe=>F e.symm)⟩
theorem T' (w:World) (q j:Nat) (v:Value):Far (λk=>k=q) w (w.setCell ⟨q,j,none⟩ v):=⟨rfl,rfl,rfl,by rw[z80];exact z16 _,λk _ z=>AG z⟩
theorem Far.own {E:Nat->Prop} {w x:World} (h:Far E w x) {e:TypeId} {v:Value} {n:Nat} {xs:List Value} (z:w.ownsRow 0 e 1 v n xs) (G:∀g,v.ownBlock=some g->¬E g):x.ownsRow 0 e 1 v n xs:=
 Q' z (λg F=>h.rest g (z14 z g F).2 (G g F))
theorem Far.blk {w x:World} (h:Far N w x) {k:Nat} (z:w.heap[k]? =some aU) (F:¬N k):x.heap[k]? =some aU:=(h.rest k (z12 z) F).trans z
def Us (z:Nat) (F:Value) (k:Nat):Prop:=k=z\/F.ownBlock=some k
structure Add (X Z:World) (wb:Nat) (as_ ss hv hv3:Value) (xs:List Value):Prop where
 blk:Z.heap[wb]? =some (.cells #[as_,ss,hv3] 91 (0,0))
 row:Z.ownsRow 0 158 1 hv3 xs.length xs
 far:Far (Us wb hv) X Z
 loc:Loc X hv hv3
theorem Ap (hb:Eh p w #[y,u,R] 91)
  (H:p.ownsRow 0 158 1 R C.length C) (z:App (p.alloc aU) f R aI) (I:f.ownsRow 0 158 1 aI aO.length aO):Add p (f.setCell ⟨w,2,none⟩ aI) w y u R aI aO:=by
 have F:Far (λk=>R.ownBlock=some k) p f:=by have h1:Far (λk=>R.ownBlock=some k) p (p.alloc aU):=I' bna;exact h1.trans (BU z.grown) Ih
 have J:R.ownBlock≠some w:=AX H hb (by decide);have G:=F.blk hb J;refine⟨?_,EK I G (by decide),?_,?_⟩;have:=AA (j:=2) (v:=aI) G;simpa using this;exact(F.mono (E':=Us w R) (λk _ h=>.inr h)).trans (T' f w 2 aI) (λk _ h=>.inl h);have hs:p.heap.size<=(p.alloc aU).heap.size:=by simp
 exact IK hs z
theorem FO (h:Loc p y u) (z:Loc f u R) (hs:p.heap.size<=f.heap.size):Loc p y R:=by
 rcases z with z|z|⟨g,z,F⟩;exact .inl z;rcases h with h|h|⟨g,h,F⟩;exact .inl (z.trans h);exact .inr (.inl (z.trans h));exact .inr (.inr ⟨g,z.trans h,F⟩);exact .inr (.inr ⟨g,z,z26 hs F⟩)
theorem nF (F:p.heap.size<=f.heap.size) (hl:Loc p y u) (z o:Nat) (h:MZ p.heap.size (Us w y) R a aI q aM b z o):MZ f.heap.size (Us w u) R a aI q aM b z o:=by
 obtain⟨h0,h1,h2⟩:=h;refine⟨z21 h0 F,λhu=>?_,h2⟩;rcases hu with hu|hu;exact h1 (.inl hu);rcases hl with hl|hl|⟨g,hl,G⟩;rw[hl]at hu;cases hu;exact h1 (.inr (hl ▸ hu));rw[hl]at hu;injection hu with hu;omega
theorem gZ (F:Far (Us w y) p f) (z o:Nat) (h:MZ p.heap.size (Us w y) u a R q aI b z o):f.cell? (Ea z o)=p.cell? (Ea z o):=
 z46 (F.rest z h.1 h.2.1)
theorem XJ {z:Type} (k:Nat) (x:z):List.replicate k x++[x]=List.replicate (k+1) x:=by
 rw[List.replicate_succ']
theorem Aq (h:p.heap[w]? =some (.cells l j aA)) (z:p.heap[a]? =some (.cells aN aT fU)) (F:j≠aT):w≠a:=by
 rintro rfl;rw[h]at z;injection z with z;injection z with _ z _;exact F z
theorem Loc.mono {w x:World} {a b:Value} (h:Loc x a b) (hs:w.heap.size<=x.heap.size):Loc w a b:=by
 rcases h with h|h|⟨g,h,z⟩;exact .inl h;exact .inr (.inl h);exact .inr (.inr ⟨g,h,z26 hs z⟩)
def AL (z n i:Int) (s:z10) (kp k e st q:Int) (b:z10):Value:=.agg #[Ej z,Ej n,Ej i,.string s,.int .u64 kp,Ej k,Ej e,Ej st,Ej q,.string b]
theorem XK (hb:Below (p.alloc aU).heap.size (p.alloc aU) f) (z:w<=p.heap.size):Below w p f:=
 ((z11 _ _).alloc z _).trans (hb.mono (by simp;omega))
theorem DA (hb:Below (p.alloc (.cells l j)).heap.size (p.alloc (.cells l j)) f):∀i,f.cell? (Ea p.heap.size i)=l[i]? :=
 λi=>Bc hb (by simp) (D' (z19 p _))
theorem Qw.zero (h:Qw w p y r):p.ownsRow 0 5 1 y r.length (bv r):=h.mono (z54 _)
theorem Xe.kept {w w':World} {b:Nat} {k e s q:Int} {body:z10} (h:Xe w b k e s q body) (hb:w'.heap[b]? =w.heap[b]?):Xe w' b k e s q body:=
 ⟨(z46 hb).trans h.c0,(z46 hb).trans h.c1,(z46 hb).trans h.c2,(z46 hb).trans h.c3,(z46 hb).trans h.c4⟩
structure Lay (w x:World) (s:z10) (g n8:Nat):Prop where
 bel:El w x
 lt:w.heap.size < g
 glt:g < x.heap.size
 s3:x.cell? (Ea w.heap.size 3)=some (.string s)
 own:x.ownsRow 0 5 1 (Es g 0 n8 n8) n8 (bv (DC s))
theorem Lay.below {w x y:World} {s:z10} {g z:Nat} (h:Lay w x s g z) (hb:El x y):Lay w y s g z:=
 ⟨h.bel.trans (hb.mono h.bel.size),h.lt,z21 h.glt hb.size,Bc hb (by have:=h.lt;have:=h.glt;show w.heap.size < _;omega) h.s3,Q' h.own (λk F=>hb.block k (z14 h.own k F).2)⟩
theorem Lay.bat (h:Lay p f z w a) (hn:z.size+8=a):BAt (λ_ _=>True) f (Es w 0 a a) (DC z):=
 CM (by have:=h.own;rw[AC,BM,hn];exact this) (λ_ _ _ _=>trivial)
theorem Lay.at {w x:World} {s:z10} {g z:Nat} (h:Lay w x s g z) (hn:s.size+8=z) (F:s.size<=140737488353980):Qk x (Es g 0 s.size z) s.data.toList:=by
 have hl:s.data.toList.length=s.size:=by simp
 refine⟨_,z,by rw[hl],by omega,by omega,λ_=>⟨g,0,rfl,λi hi=>?_⟩⟩;rw[hl]at hi;have:=z59 h.own i (by omega);rw[z45,this,JW (by rw[BM];omega),XI hi];have h2:i < s.data.toList.length:=by omega
 rw[z15,z17 h2];rfl
theorem Ar (s:z10) (w:World) (O:Array Value) (e:TypeId) (z:Nat) (hn:s.size+8=z) (H:s.size<=140737488353980) (h3:O[3]? =some (.string s)):
  Cp 92 #[.string s] (w.alloc (.cells O e)) λr w'=>∃g,r=.returned (Es g 0 z z)/\Lay w w' s g z:=by
 subst hn;refine(nE s _ (by omega)).mono ?_;rintro r w' ⟨rfl,hb,F,G⟩;refine⟨_,rfl,XK hb (z16 _),by simp,by simpa using F,(DA hb 3).trans h3,G⟩
def Ql (w:World) (e:TypeId) (size:Nat) (v:Value) (n:Nat) (xs:List Value):Prop:=
 xs.length=n * size/\((v=En/\n=0)\/
  ∃g o cap z,v=Es g o n cap/\w.heap[g]? =some (.cells z e (0,0))/\n<=cap/\cap<=maxLen/\o+cap * size<=z.size/\(z.toList.drop o).take (n * size)=xs)
theorem BW (w:World) (e:TypeId) (size:Nat):Ql w e size En 0 []:=⟨by simp,.inl ⟨rfl,rfl⟩⟩
theorem Ql.Jc {w:World} {e:TypeId} {size n:Nat} {v:Value} {xs:List Value} (h:w.ownsRow 0 e size v n xs):Ql w e size v n xs:=by
 obtain⟨h1,h2⟩:=h;refine⟨h1,?_⟩;rcases h2 with h2|⟨g,cap,z,rfl,_,F,hn,G,hs,H⟩;exact .inl h2;exact .inr ⟨g,0,cap,z,rfl,F,hn,G,by omega,by simpa using H⟩
theorem Ql.keep {w w':World} {e:TypeId} {size n:Nat} {v:Value} {xs:List Value} (h:Ql w e size v n xs) (z:∀g,v.ownBlock=some g->w'.heap[g]? =w.heap[g]?):Ql w' e size v n xs:=by
 obtain⟨h1,h2⟩:=h;refine⟨h1,?_⟩;rcases h2 with h2|⟨g,o,cap,F,rfl,G,r⟩;exact .inl h2;exact .inr ⟨g,o,cap,F,rfl,by rw[z g rfl];exact G,r⟩
theorem Ql.lt {w:World} {e:TypeId} {size n:Nat} {v:Value} {xs:List Value} (h:Ql w e size v n xs):∀g,v.ownBlock=some g->g < w.heap.size:=by
 intro g z;obtain⟨_,h2⟩:=h;rcases h2 with ⟨rfl,_⟩|⟨g',o,cap,G,rfl,F,_⟩;cases z;cases z;exact z12 F
theorem Ql.ne {w:World} {e z:TypeId} {size n p:Nat} {v:Value} {xs:List Value} {c:Array Value} {fr:Nat×Nat} (h:Ql w e size v n xs) (hb:w.heap[p]? =some (.cells c z fr)) (G:e≠z):v.ownBlock≠some p:=by
 intro F;obtain⟨_,h2⟩:=h;rcases h2 with ⟨rfl,_⟩|⟨g,o,cap,I,rfl,H,_⟩;cases F;cases F;rw[H]at hb;injection hb with hb;injection hb with _ hb _;exact G hb
theorem Ql.ty {w:World} {e z:TypeId} {size F n G b:Nat} {v v':Value} {xs H:List Value} (h:Ql w e size v n xs) (I:Ql w z F v' G H) (J:e≠z) (hb:v.ownBlock=some b):v'.ownBlock≠some b:=by
 obtain⟨_,h2⟩:=h;rcases h2 with ⟨rfl,_⟩|⟨g,o,cap,Q,rfl,M,_⟩;cases hb;cases hb;exact I.ne M (λe=>J e.symm)
theorem Ql.far {E:Nat->Prop} {w x:World} (h:Far E w x) {e:TypeId} {size n:Nat} {v:Value} {xs:List Value} (z:Ql w e size v n xs) (G:∀g,v.ownBlock=some g->¬E g):Ql x e size v n xs:=
 z.keep (λg F=>h.rest g (z.lt g F) (G g F))
theorem Ql.shape (h:Ql p j w y a C):∃z cap,y=.slice z a cap/\a<=cap/\cap<=maxLen/\
  (0 < a->∃g o,z=some ⟨g,o,none⟩/\∀i,i < a * w->p.cell? (Ea g (o+i))=C[i]?):=by
 obtain⟨h1,h2⟩:=h;rcases h2 with ⟨rfl,rfl⟩|⟨g,o,cap,I,rfl,F,hn,G,hs,H⟩;exact⟨none,0,rfl,by omega,by unfold maxLen;omega,λh=>by omega⟩;refine⟨_,cap,rfl,hn,G,λ_=>⟨g,o,rfl,λi hi=>?_⟩⟩;rw[D' F,<-H,z73,if_pos hi,z82];simp
theorem Ql.drop {w:World} {e:TypeId} {size n k g o cap:Nat} {xs:List Value} (h:Ql w e size (Es g o n cap) n xs) (M:k<=n):
  Ql w e size (Es g (o+k * size) (n - k) (cap - k)) (n - k) (xs.drop (k * size)):=by
 obtain⟨h1,h2⟩:=h;rcases h2 with ⟨h2,_⟩|⟨g',Q,V,F,z,G,hn,Y,Z,H⟩;cases h2;injection z with z _ I;injection z with z;injection z with z J;subst z J I;refine⟨by rw[z97,h1,<-Nat.sub_mul],.inr ⟨g,o+k * size,cap - k,F,rfl,G,by omega,by omega,?_,?_⟩⟩
 .have:k * size+(cap - k) * size=cap * size:=by rw[<-Nat.add_mul];congr 1;omega
  omega
 rw[<-H,Ke,List.drop_drop,Nat.sub_mul]
theorem Ql.none_left (h:Ql p j w (Es q b a Q) a C):
  Ql p j w (Es q b 0 0) 0 []:=by
 obtain⟨h1,h2⟩:=h;rcases h2 with ⟨h2,_⟩|⟨g',J,M,F,z,G,hn,V,Y,Z⟩;cases h2;injection z with z _ H;injection z with z;injection z with z I;subst z I H;exact⟨by simp,.inr ⟨q,b,0,F,rfl,G,by omega,by unfold maxLen;omega,by omega,by simp⟩⟩
theorem Ql.set {w:World} {e:TypeId} {size n g o cap i:Nat} {xs:List Value} (h:Ql w e size (Es g o n cap) n xs) (hi:i < n * size) (u:Value):
  Ql (w.setCell ⟨g,o+i,none⟩ u) e size (Es g o n cap) n (xs.set i u):=by
 obtain⟨h1,h2⟩:=h;rcases h2 with ⟨h2,_⟩|⟨g',Z,aa,F,z,H,hn,I,J,M⟩;cases h2;injection z with z _ Q;injection z with z;injection z with z V;subst z V Q;refine⟨by rw[Fw];exact h1,.inr ⟨g,o,cap,_,rfl,AA H,hn,I,by simpa using J,?_⟩⟩;rw[<-M,Fq];apply z93;intro j;simp only[List.getElem?_take,List.getElem?_drop,List.getElem?_set,List.length_take,List.length_drop,Array.length_toList];by_cases hj:j < n * size;have Y:i < min (n * size) (F.size - o):=by have:n * size<=cap * size:=Ft _ hn;omega
 by_cases G:i=j;subst G;have:o+i < F.size:=by have:n * size<=cap * size:=Ft _ hn;omega
 simp[hi,Y,this];simp[hj,G];have:¬i=j:=by omega
 simp[hj,this]
theorem OU {P:Program} (w:World) (t ty e:TypeId) (i:TypeInfo) (I:P.underlying t=some (.slice e)) (hi:P.info? e=some i)
  (g o F H:Nat) (G:Array Value) (J:Eh w g G e)
  (a:Addr) (m c:Nat) (z:List Value) (hl:z.length=m * i.size) (M:∀j u,z[j]? =some u->w.cell? (a.add j)=some u) (h1:∀u∈z,u.oneCell'=true)
  (Q:F+m<=H) (V:o+F * i.size+z.length<=G.size):
  (Builtin.append_ #[t,t] ty #[Es g o F H,.slice (some a) m c]).run P w=
   .ok (Es g o (F+m) H) (w.setRow g (G.toList.take (o+F * i.size)++z++G.toList.drop (o+F * i.size+z.length)).toArray):=by
 have Y:=Kd (P:=P) w i.size m a m c z hl M;have hst:=run_storeCells_at P g (o+F * i.size) e z 0 G w J (by simpa using V) h1;simp only[Nat.add_zero]at hst;simp[Builtin.append_,run_underlying I,sizeOf,typeInfo,hi,Builtin.lenOf,Q,Y,Addr.add_lit,hst]
theorem QY {P:Program} (w:World) (t ty e:TypeId) (i:TypeInfo) (I:Value) (size bytes:Nat) (Y:P.underlying t=some (.slice e)) (hi:P.info? e=some i) (ah:i.zero=some I) (ao:i.size=size) (aq:i.bytes=bytes)
  (au:I.cells.size=size) (v:Value) (n:Nat) (xs:List Value) (G:Ql w e size v n xs) (M:Addr) (m c:Nat) (z:List Value) (hl:z.length=m * size) (Z:∀j u,z[j]? =some u->w.cell? (M.add j)=some u)
  (h1:∀u∈z,u.oneCell'=true) (aG:0 < m) (hb:(n+m) * bytes<=140737488355328) (aH:n+m<=140737488355328):
  ∃v' w',(Builtin.append_ #[t,t] ty #[v,.slice (some M) m c]).run P w=.ok v' w'/\Ql w' e size v' (n+m) (xs++z)/\App w w' v v':=by
 subst ao aq;have ai:n+m<=maxLen:=by unfold maxLen;omega
 have V:(xs++z).length=(n+m) * i.size:=by rw[z29,G.1,hl,Nat.add_mul]
 have grown:∀ (old:Nat) (row:Option Nat),Ql (w.drew.alloc (.cells (xs.toArray++z.toArray++Builtin.zeroCells I.cells (grownCap w (n+m) old e - (n+m))) e)) e i.size
    (Es w.heap.size 0 (n+m) (grownCap w (n+m) old e)) (n+m) (xs++z)/\
   w.grownBy (w.drew.alloc (.cells (xs.toArray++z.toArray++Builtin.zeroCells I.cells (grownCap w (n+m) old e - (n+m))) e)) row:=by
  intro old row;have av:=wM w (n+m) old e;have aa:grownCap w (n+m) old e<=maxLen:=Fv w (n+m) old e ai;refine⟨⟨V,.inr ⟨w.heap.size,0,_,_,rfl,z19 w.drew _,av,aa,?_,?_⟩⟩,⟨rfl,rfl,rfl,by simp,λk ab _=>z35 w.drew _ k ab⟩⟩
  .simp only[Array.size_append,List.size_toArray,size_zeroCells,au,G.1,hl,<-Nat.add_mul,Nat.zero_add];exact Ft _ (by omega)
  .simp only[Array.toList_append,List.append_assoc,List.drop_zero];rw[<-z39,<-V];exact List.take_left
 rcases G.2 with ⟨rfl,rfl⟩|⟨g,o,cap,J,rfl,aj,aI,aa,aJ,ax⟩;have ay:xs=[]:=z68 (by simpa using G.1);subst ay;have Q:=run_append_nil (P:=P) w t ty e i I Y hi ah M m c z hl Z (by omega) (by omega) (by simp only[Nat.zero_add]at hb;omega);have H:=grown 0 none;simp only[Nat.zero_add,List.nil_append,Array.empty_append]at H ⊢;exact⟨_,_,Q,H.1,⟨H.2,.inr ⟨H.2,w.heap.size,rfl,z16 _⟩⟩⟩;by_cases ac:n+m<=cap;have az:(n+m) * i.size<=cap * i.size:=Ft _ ac;rw[Nat.add_mul]at az;have aA:o+n * i.size+z.length<=J.size:=by rw[hl];omega
 have Q:=OU (P:=P) w t ty e i Y hi g o n cap J aj M m c z hl Z h1 ac aA;refine⟨_,_,Q,⟨V,.inr ⟨g,o,cap,_,rfl,z91 w g J _ e _ aj,ac,aa,?_,?_⟩⟩,⟨⟨rfl,rfl,rfl,by simp,λk _ ab=>mU w g k _ (λe=>ab (by simp[Value.ownBlock,e]))⟩,.inl rfl⟩⟩;simp only[List.size_toArray,List.length_append,List.length_take,List.length_drop,Array.length_toList];omega;have aB:(J.toList.take (o+n * i.size)++z++J.toList.drop (o+n * i.size+z.length)).drop o=xs++(z++J.toList.drop (o+n * i.size+z.length)):=by rw[z39,Iz (by simp;omega),Ke];congr 1;rw[<-ax];congr 1;omega
 simp only
 rw[aB,<-z39,<-V];exact List.take_left;have aK:grownCap w (n+m) cap e=grownCap w (n+m) cap e:=rfl;have holds:∀j u,xs[j]? =some u->w.cell? ((⟨g,o,none⟩:Addr).add j)=some u:=by
  intro j u hj;have ak:j < n * i.size:=by have:=(z25.1 hj).1;rw[G.1]at this;exact this
  obtain⟨aL,aM,F,_,_,ad⟩:=G.shape;have aC:0 < n:=by rcases Nat.eq_zero_or_pos n with h|h;subst h;simp at ak;exact h
  obtain⟨g',aN,aD,ad⟩:=ad aC;injection F with F;rw[aD]at F;injection F with F;injection F with F aE;subst F aE;have:=ad j ak;rw[hj]at this;unfold Addr.add;split;rename_i h0;subst h0;simpa using this;exact this
 have Q:=run_append_grow (P:=P) w t ty e i I Y hi ah ⟨g,o,none⟩ n cap xs G.1 holds M m c z hl Z (by omega) (by unfold maxLen at ai;omega) (growslice_fits (by omega) hb);have H:=grown cap (Value.ownBlock (Es g o n cap));have aF:=grown cap none;exact⟨_,_,Q,H.1,⟨H.2,.inr ⟨aF.2,w.heap.size,rfl,z16 _⟩⟩⟩
namespace Mq
structure Js where
 base:Nat
 kept:List (z10×Nat)
 held:List Nat
structure Ag where
 Qa:Nat
 Qf:Nat
 Qd:Bool
 fenced:Bool
 fl:Nat->Js
def upd (f:Nat->Js) (s:Nat) (x:Js):Nat->Js:=λt=>if t=s then x else f t
theorem Qn (f:Nat->Js) (s:Nat) (x:Js):upd f s x s=x:=by simp[upd]
theorem Va (f:Nat->Js) (x:Js) (h:a≠w):upd f w x a=f a:=by simp[upd,h]
def Ag.room (a:Ag):Nat:=(a.fl 0).kept.length+(a.fl 1).kept.length+(a.fl 2).kept.length
def Ag.Je (a:Ag) (z:Int) (size:Nat):Int:=
 if z < 0\/3<=z then 5 else if 20 < size then 6 else if 24<=a.room then 7 else 0
def Ag.Xm (a:Ag) (s:Nat) (body:z10):Ag:={a with fl:=upd a.fl s {a.fl s with kept:=(a.fl s).kept++[(body,0)]}}
def Ag.Xn (a:Ag) (s:Nat):List z10:=(a.fl s).kept.map (·.1)
def due (f:Js) (Qf i sent:Nat):Bool:= !(f.held.contains (f.base+1+i)) && (sent==0||decide (sent+4<=Qf))
def sendTo (Qa s:Nat) (f:Js) (Qf:Nat):Nat->List (z10×Nat) ×List (List UInt8)
 |0=>(f.kept,[])
 |i+1=>
  let r:=sendTo Qa s f Qf i
  match f.kept[i]? with
  |none=>r
  |some x=>if due f Qf i x.2 then(r.1.set i (x.1,Qf),r.2++[Qb.bytes 3 Qa s (f.base+1+i:Nat) x.1.data.toList])else r
def Ag.gone (a:Ag) (s:Nat) (mM:Int):Nat:=min (mM - (a.fl s).base).toNat (a.fl s).kept.length
def Js.drop (f:Js) (n:Nat):Js:={f with base:=f.base+n,kept:=f.kept.drop n}
def Za (f:Nat->Js) (n:Nat->Nat) (s:Nat):Nat->Js:=λt=>if t < s then(f t).drop (n t)else f t
theorem dropTo_zero (f:Nat->Js) (n:Nat->Nat):Za f n 0=f:=by funext t;simp[Za]
theorem Vt (f:Nat->Js) (n:Nat->Nat) (s:Nat):Za f n s s=f s:=by simp[Za]
theorem dropTo_succ (f:Nat->Js) (n:Nat->Nat) (s:Nat):Za f n (s+1)=upd (Za f n s) s ((f s).drop (n s)):=by
 funext t;unfold Za upd;by_cases h:t=s;subst h;simp;by_cases h2:t < s;simp[h,h2,show t < s+1 by omega];simp[h,h2,show ¬t < s+1 by omega]
def Ag.drop (a:Ag) (n:Nat->Nat):Ag:={a with fl:=Za a.fl n 3}
def Ag.Jb (a:Ag) (z Qa F G:Int) (body:z10) (s:Nat):Nat:=
 if Qa≠a.Qa then 0 else if z=2 then a.gone s (Qh body.data.toList (4 * s))else if z=4/\F=s/\a.Qd=true then a.gone s G else 0
def fresh (f:Nat->Js) (s:Nat):Nat->Js:=λt=>if t < s then {f t with kept:=(f t).kept.map λr=>(r.1,0),held:=[]}else f t
def bitsOf (z:Nat) (c:Nat):Nat->List Nat
 |0=>[]
 |i+1=>bitsOf z c i++(if c / 2 ^ i % 2=1 then [z+2+i]else [])
def Ag.ackSeq (a:Ag) (s:Nat) (q:Int):Nat:=min q.toNat ((a.fl s).base+(a.fl s).kept.length)
def Ag.Qv (a:Ag) (k e st q:Int) (b:z10):Ag:=
 if k=5/\(a.Qa:Int) < e then {a with fenced:=true}
 else if e≠a.Qa then a
 else if k=5 then {a with Qd:=false}
 else if k=2 then {a.drop (a.Jb k e st q b)with Qd:=true,fl:=fresh (a.drop (a.Jb k e st q b)).fl 3}
 else if k=4 then
  if a.Qd=false\/a.ackSeq st.toNat q < (a.fl st.toNat).base then a
  else {a.drop (a.Jb k e st q b)with fl:=upd (a.drop (a.Jb k e st q b)).fl st.toNat {(a.drop (a.Jb k e st q b)).fl st.toNat with held:=bitsOf (a.ackSeq st.toNat q) (b.data.toList.getD 0 0).toNat 3}}
 else a
def Xf (Qa Qf:Nat) (f:Nat->Js) (s:Nat):Nat->Js:=λt=>if t < s then {f t with kept:=(sendTo Qa t (f t) Qf 4).1}else f t
def Zl (Qa Qf:Nat) (f:Nat->Js):Nat->List (List UInt8)
 |0=>[]
 |s+1=>Zl Qa Qf f s++(sendTo Qa s (f s) Qf 4).2
def Ag.tick (a:Ag):Ag×List (List UInt8):=
 if a.fenced=true then({a with Qf:=a.Qf+1},[])
 else if a.Qd=false then({a with Qf:=a.Qf+1},[Qb.bytes 1 a.Qa 0 0 []])
 else({a with Qf:=a.Qf+1,fl:=Xf a.Qa (a.Qf+1) a.fl 3},Zl a.Qa (a.Qf+1) a.fl 3)
end Mq
open Mq
def BO (l:List (z10×Nat)):List Value:=l.flatMap λr=>[.string r.1,Ej r.2]
def O' (l:List Nat):List Value:=l.map λn:Nat=>Ej (n:Int)
structure AY where
 dead:Bool
 g0:Int
 g1:Int
 g2:Int
 st:Int
 ex:Value
def AE (a:Ag) (r:AY) (z F:Nat->Value):Array Value:=
 #[Ej a.Qa,Ej a.Qf,.bool a.Qd,.bool a.fenced,.bool r.dead,Ej (a.fl 0).base,z 0,F 0,Ej (a.fl 1).base,z 1,F 1,Ej (a.fl 2).base,z 2,F 2,Ej r.g0,Ej r.g1,Ej r.g2,Ej r.st,r.ex]
structure Qi (w:World) (p:Nat) (a:Ag) (r:AY) (kv hv:Nat->Value):Prop where
 blk:w.heap[p]? =some (.cells (AE a r kv hv) 171 (0,0))
 kept:∀s,s < 3->Ql w 265 2 (kv s) (a.fl s).kept.length (BO (a.fl s).kept)
 held:∀s,s < 3->Ql w 3 1 (hv s) (a.fl s).held.length (O' (a.fl s).held)
 apk:∀s t,s < 3->t < 3->s≠t->∀g,(kv s).ownBlock=some g->(kv t).ownBlock≠some g
 aph:∀s t,s < 3->t < 3->s≠t->∀g,(hv s).ownBlock=some g->(hv t).ownBlock≠some g
 ep:a.Qa<=1000000000000000
 tk:a.Qf<=1000000000000000
 bs:∀s,s < 3->(a.fl s).base<=1000000000000000
 kl:∀s,s < 3->(a.fl s).kept.length<=24
 hl:∀s,s < 3->(a.fl s).held.length<=3
def CP (p:Nat) (z F:Nat->Value) (k:Nat):Prop:=k=p\/∃s,s < 3/\((z s).ownBlock=some k\/(F s).ownBlock=some k)
theorem Qi.far {E:Nat->Prop} {w x:World} {p:Nat} {a:Ag} {r:AY} {z F:Nat->Value} (h:Qi w p a r z F) (G:Far E w x) (H:∀k,CP p z F k->¬E k):Qi x p a r z F:=
 ⟨G.blk h.blk (H p (.inl rfl)),λs hs=>(h.kept s hs).far G (λg I=>H g (.inr ⟨s,hs,.inl I⟩)),λs hs=>(h.held s hs).far G (λg I=>H g (.inr ⟨s,hs,.inr I⟩)),h.apk,h.aph,h.ep,h.tk,h.bs,h.kl,h.hl⟩
theorem Qi.lt {w:World} {p:Nat} {a:Ag} {r:AY} {F G:Nat->Value} (h:Qi w p a r F G):∀k,CP p F G k->k < w.heap.size:=by
 rintro k (rfl|⟨s,hs,z|z⟩);exact z12 h.blk;exact(h.kept s hs).lt k z;exact(h.held s hs).lt k z
variable{c:Ag}{P:AY}
theorem nG (R:Qi p w c P m I):
  Cp 205 #[Er w 0] p λe w'=>Rr e (Ej c.room)/\∃n,w'=p.drewN n:=by
 have z:=Bi 6 R.blk;have F:=Bi 9 R.blk;have G:=Bi 12 R.blk;obtain⟨V,Y,H,_⟩:=(R.kept 0 (by omega)).shape;obtain⟨Z,aa,J,_⟩:=(R.kept 1 (by omega)).shape;obtain⟨ab,ac,M,_⟩:=(R.kept 2 (by omega)).shape;have k0:=R.kl 0 (by omega);have k1:=R.kl 1 (by omega);have k2:=R.kl 2 (by omega);simp[AE]at z F G;rw[H]at z;rw[J]at F;rw[M]at G;have Q:Hid ((c.room:Int)=(c.fl 0).kept.length+(c.fl 1).kept.length+(c.fl 2).kept.length):=by show _= _;simp[Ag.room]
 clear R H J M;generalize (c.fl 0).kept.length=n0,(c.fl 1).kept.length=n1,(c.fl 2).kept.length=n2 at *;go_enter func205,ntmps205;go_wp2;go_quiet (fail);go_wp2;go_ret;exact⟨IP (d' Q).symm,_,rfl⟩
theorem nH (R:Qi p w c P m I) (st:Int) (b:z10) (hd:P.dead=false):
  Cp 183 #[Er w 0,Ej st,.string b] p λe w'=>Rr e (Ej (c.Je st b.size))/\∃n,w'=p.drewN n:=by
 have c4:=Bi 4 R.blk;simp[AE,hd]at c4;have z:=y' (nG R);have F:Hid (c.Je st b.size=if st < 0\/3<=st then 5 else if 20 < b.size then 6 else if 24<=c.room then 7 else 0):=rfl;have G:c.room<=72:=by have k0:=R.kl 0 (by omega);have k1:=R.kl 1 (by omega);have k2:=R.kl 2 (by omega);unfold Ag.room;omega
 clear R hd;generalize c.room=n at *;by_cases h1:st < 0
 .go_enter func183,ntmps183;go_wp2_with (go_at_call 205;refine Cm z ?_;rintro e w' ⟨rfl,k,rfl⟩);go_ret;exact⟨IP (by rw[d' F,if_pos (.inl h1)]),_,rfl⟩
 by_cases h2:3<=st
 .go_enter func183,ntmps183;go_wp2_with (go_at_call 205;refine Cm z ?_;rintro e w' ⟨rfl,k,rfl⟩);go_ret;exact⟨IP (by rw[d' F,if_pos (.inr h2)]),_,rfl⟩
 by_cases h3:20 < (b.size:Int)
 .go_enter func183,ntmps183;go_wp2_with (go_at_call 205;refine Cm z ?_;rintro e w' ⟨rfl,k,rfl⟩);go_ret;exact⟨IP (by rw[d' F,if_neg (by omega),if_pos (by omega)]),_,rfl⟩
 by_cases h4:24<=(n:Int)
 .go_enter func183,ntmps183;go_wp2_with (go_at_call 205;refine Cm z ?_;rintro e w' ⟨rfl,k,rfl⟩);go_ret;exact⟨IP (by rw[d' F,if_neg (by omega),if_neg (by omega),if_pos (by omega)]),_,rfl⟩
 go_enter func183,ntmps183;go_wp2_with (go_at_call 205;refine Cm z ?_;rintro e w' ⟨rfl,k,rfl⟩);go_ret;exact⟨IP (by rw[d' F,if_neg (by omega),if_neg (by omega),if_neg (by omega)]),_,rfl⟩
theorem jW (h:w < k.length):(O' k)[w]? =some (Ej (k[w]:Int)):=by simp[O',h]
theorem jX (h:∀j (hj:j < k.length),k[j]≠w):k.contains w=false:=by
 rw[List.contains_eq_any_beq,List.any_eq_false];intro x z;obtain⟨j,hj,rfl⟩:=z79.1 z;have:=h j hj;simp;omega
theorem nI (hj:a < k.length) (h:k[a]=w):k.contains w=true:=by
 rw[Kc];exact h ▸ z86 hj
theorem xE (n:Nat) (c:p.cell? (Ea w (a+2))=some y) (R:Ql p 3 1 y k.length (O' k)) (hl:k.length<=1000):
  Cp 187 #[Er w a,Ej n] p λe w'=>Rr e (.bool (k.contains n))/\∃z,w'=p.drewN z:=by
 obtain⟨ad,cap,rfl,h1,h2,h3⟩:=R.shape;have V:=y' h3;clear h3 R;go_enter func187,ntmps187;go_wp2;go_loopw[5] (λi wr=>∃z:Nat,z<=k.length/\i=.int .i64 z/\(∀j (hj:j < k.length),j < z->k[j]≠n)/\∃q,wr=p.drewN q) (λi _=>k.length - (intOf i).toNat)
 case atStart=>exact⟨0,z54 _,rfl,λj hj h=>absurd h (by omega),0,rfl⟩
 case round=>
  obtain⟨z,ah,rfl,I,q,rfl⟩:=hrel;have J:=y' I;clear I;by_cases M:z < k.length
  .obtain⟨g,o,rfl,G⟩:=(d' V) (by omega);have H:=G z (by omega);rw[jW M]at H;have Q:Hid (k[z]=k[z]):=rfl;by_cases F:k[z]=n
   .rw[F]at H;have Y:=y' (nI M F);clear G F Q;go_wp2;go_ret;exact⟨BR (d' Y).symm,_,rfl⟩
   have Z:=y' F;have aa:¬ ((k[z]:Int)=(n:Int)):=(by omega);clear G F Q;generalize ab:(k[z]:Int)=x at H aa;clear ab;go_wp2;go_roundw
   case rel=>exact⟨z+1,by omega,by go_num,λj hj h=>by by_cases ac:j=z;subst ac;exact d' Z;exact(d' J) j hj (by omega),_,rfl⟩
   case measure=>simp[intOf];omega
  go_wp2;go_ret;exact⟨BR (jX (λj hj=>(d' J) j hj (by omega))).symm,_,rfl⟩
theorem DR (R:Qi p w c P m I) (s:Nat) (hs:s < 3):
  p.cell? (Ea w (5+s * 3))=some (Ej (c.fl s).base)/\p.cell? (Ea w (5+s * 3+1))=some (m s)/\p.cell? (Ea w (5+s * 3+2))=some (I s):=by
 obtain rfl|rfl|rfl:s=0\/s=1\/s=2:=by omega
 all_goals exact⟨D' R.blk,D' R.blk,D' R.blk⟩
theorem nJ (R:Qi p w c P m I) (s:Nat) (hs:s < 3) (n:Int) (hn: -9000000000000000000<=n/\n<=9000000000000000000):
  Cp 207 #[Er w 0,Ej s,Ej n] p λe w'=>Rr e (Ej (c.gone s n))/\w'=p:=by
 obtain⟨c0,c1,c2⟩:=DR R s hs;obtain⟨G,cap,F,_⟩:=(R.kept s hs).shape;rw[F]at c1;have k0:=R.kl s hs;have H:=R.bs s hs;have z:Hid (c.gone s n=min (n - (c.fl s).base).toNat (c.fl s).kept.length):=rfl;clear R F c2;generalize (c.fl s).base=bs,(c.fl s).kept.length=len at *;obtain⟨n1,n2⟩:=hn;have w1:wrap64 (n - (bs:Int))=n - bs:=by unfold wrap64;omega
 by_cases h1:n - (bs:Int) < 0
 .go_enter func207,ntmps207;go_wp2;go_ret;exact⟨IP (by rw[d' z];omega),rfl⟩
 by_cases h2:(len:Int) < n - (bs:Int)
 .go_enter func207,ntmps207;go_wp2;go_ret;exact⟨IP (by rw[d' z];omega),rfl⟩
 go_enter func207,ntmps207;go_wp2;go_ret;exact⟨IP (by rw[d' z];omega),rfl⟩
theorem vP:(prog.info? 265).map (λi=>(i.zero,i.size,i.bytes))=some (some (.agg #[.string ⟨#[]⟩,Ej 0]),2,24):=by kernel_rfl
theorem jY:(prog.info? 3).map (λi=>(i.zero,i.size,i.bytes))=some (some (Ej 0),1,8):=by kernel_rfl
theorem AT {P:Program} {e:TypeId} {z:Value} {size bytes:Nat} (h:(P.info? e).map (λi=>(i.zero,i.size,i.bytes))=some (some z,size,bytes)):∃i,P.info? e=some i/\i.zero=some z/\i.size=size/\i.bytes=bytes:=by
 cases hi:P.info? e with
 |none=>rw[hi]at h;cases h
 |some i=>rw[hi]at h;injection h with h;injection h with h1 h2;injection h2 with h2 h3;exact⟨i,rfl,h1,h2,h3⟩
theorem DZ {rest:List Oper} (I:J.guard=none) (s x:Operand) (t:TypeId) (M:J.op=.call {callee:=.builtin .append,args:= #[s,x],argTypes:= #[t,t]})
  (e:TypeId) (F:Value) (size bytes:Nat) (Q:prog.underlying t=some (.slice e)) (V:(prog.info? e).map (λi=>(i.zero,i.size,i.bytes))=some (some F,size,bytes)) (Y:F.cells.size=size)
  (v:Value) (n:Nat) (xs:List Value) (Z:Ql p e size v n xs) (hs:G.eval s=v) (H:Addr) (m c:Nat) (z:List Value) (aa:G.eval x=.slice (some H) m c) (hl:z.length=m * size) (ab:∀j u,z[j]? =some u->p.cell? (H.add j)=some u)
  (h1:∀u∈z,u.oneCell'=true) (ac:0 < m) (hb:(n+m) * bytes<=140737488355328) (ad:n+m<=140737488355328)
  (h:∀v' w',Ql w' e size v' (n+m) (xs++z)->App p w' v v'->wpList prog aC aB rest (G.put J.dst v') w'):wpList prog aC aB (J::rest) G p:=by
 obtain⟨i0,hi,ah,ai,aj⟩:=AT V;obtain⟨v',w',ak,h2,h3⟩:=QY (P:=prog) p t J.type e i0 F size bytes Q hi ah ai aj Y v n xs Z H m c z hl ab h1 ac hb ad;refine jK I λ_ hK=>?_;unfold Oper.wp execOp;simp only[M,resolve,invoke,builtin,Sem.run_bind,Sem.run_pure,Result.andThen_ok,List.map_toArray,List.map_cons,List.map_nil,hs,aa,ak];exact hK _ _ (h v' w' h2 h3)
def CC (w w':World) (p:Nat) (a':Ag) (r:AY) (z F:Nat->Value):Prop:=
 ∃G H,Qi w' p a' r G H/\Far (CP p z F) w w'/\∀k,CP p G H k->CP p z F k\/w.heap.size<=k
def TF (f:Nat->Value) (s:Nat) (v:Value):Nat->Value:=λt=>if t=s then v else f t
theorem CG (f:Nat->Value) (s:Nat) (v:Value):TF f s v s=v:=by simp[TF]
theorem BE (f:Nat->Value) (v:Value) (h:a≠w):TF f w v a=f a:=by simp[TF,h]
theorem eU (a:Ag) (r:AY) (z F:Nat->Value) (s:Nat) (hs:s < 3) (v:Value) (x:List (z10×Nat)):
  (AE a r z F).setIfInBounds (5+s * 3+1) v=AE {a with fl:=upd a.fl s {a.fl s with kept:=x}} r (TF z s v) F:=by
 obtain rfl|rfl|rfl:s=0\/s=1\/s=2:=by omega
 all_goals rfl
theorem NL (l:List (z10×Nat)) (b:z10):BO (l++[(b,0)])=BO l++[.string b,Ej 0]:=by simp[BO]
theorem IL {w:World} (hb:El w p) (h:App p f y u):Far (λk=>y.ownBlock=some k) w f:=by
 have h1:Far (λk=>y.ownBlock=some k) w p:=I' hb;exact h1.trans (BU h.grown) Ih
theorem MH {w:World} (hb:El w p) (h:App p f y u):∀g,u.ownBlock=some g->y.ownBlock=some g\/w.heap.size<=g:=by
 intro g z;rcases h.where_ with h|⟨_,g',h,F⟩;exact .inl (h ▸ z);rw[h]at z;injection z with z;have:=hb.size;exact .inr (by omega)
theorem Qi.keptStep (R:Qi p w c P m I) (s:Nat) (hs:s < 3) {v':Value} {x:List (z10×Nat)} (M:Far (λk=>(m s).ownBlock=some k) p f)
  (hl:∀g,v'.ownBlock=some g->(m s).ownBlock=some g\/p.heap.size<=g) (ai:Ql f 265 2 v' x.length (BO x)) (aj:x.length<=24):
  (∃C,Eh f w C 171/\C[5+s * 3+1]? =some (m s))/\
  CC p (f.setCell ⟨w,5+s * 3+1,none⟩ v') w {c with fl:=upd c.fl s {c.fl s with kept:=x}} P m I:=by
 have ac:(m s).ownBlock≠some w:=(R.kept s hs).ne R.blk (by decide);have ad:=M.blk R.blk ac;have ak:∀t,t < 3->(m t).ownBlock≠some w:=λt z=>(R.kept t z).ne R.blk (by decide);have ao:∀t,t < 3->(I t).ownBlock≠some w:=λt z=>(R.held t z).ne R.blk (by decide);have Z:∀k,k < p.heap.size->v'.ownBlock=some k->(m s).ownBlock=some k:=λk H e=>(hl k e).elim id (λh=>by omega);have Q:=T' f w (5+s * 3+1) v';have aa:∀t,upd c.fl s {c.fl s with kept:=x} t=if t=s then {c.fl s with kept:=x}else c.fl t:=λt=>rfl
 refine⟨⟨_,ad,?_⟩,TF m s v',I,⟨?_,?_,?_,?_,R.aph,R.ep,R.tk,?_,?_,?_⟩,?_,?_⟩
 .obtain rfl|rfl|rfl:s=0\/s=1\/s=2:=by omega
  all_goals rfl
 rw[<-eU c P m I s hs];exact AA ad;intro t z;by_cases G:t=s;subst G;rw[CG];simp only[Mq.Qn];refine ai.far Q (λg F J=>?_);rw[J]at F;exact ac (Z w (z12 R.blk) F);rw[BE _ _ G];simp only[Va _ _ G];exact((R.kept t z).far M (λg F ab=>R.apk t s z hs G g F ab)).far Q (λg F J=>ak t z (by rw[F,J]));intro t z;have:(upd c.fl s {c.fl s with kept:=x} t).held=(c.fl t).held:=by rw[aa];split <;> simp_all
 simp only[this];exact((R.held t z).far M (λg F ab=>(R.held t z).ty (R.kept s hs) (by decide) F ab)).far Q (λg F J=>ao t z (by rw[F,J]));intro t u z hu V g F;by_cases G:t=s;subst G;rw[CG]at F;rw[BE _ _ (λe=>V e.symm)];intro Y;have aq:=(R.kept u hu).lt g Y;exact R.apk t u z hu V g (Z g aq F) Y;rw[BE _ _ G]at F;by_cases ah:u=s;subst ah;rw[CG];intro Y;exact R.apk t u z hu V g F (Z g ((R.kept t z).lt g F) Y);rw[BE _ _ ah];exact R.apk t u z hu V g F;intro t z;have:(upd c.fl s {c.fl s with kept:=x} t).base=(c.fl t).base:=by rw[aa];split <;> simp_all
 simp only[this];exact R.bs t z;intro t z;by_cases G:t=s;subst G;simp only[Mq.Qn];exact aj;simp only[Va _ _ G];exact R.kl t z;intro t z;have:(upd c.fl s {c.fl s with kept:=x} t).held=(c.fl t).held:=by rw[aa];split <;> simp_all
 simp only[this];exact R.hl t z;exact(M.mono (E':=CP w m I) (λk _ h=>.inr ⟨s,hs,.inl h⟩)).trans Q (λk _ h=>.inl h);rintro k (rfl|⟨t,z,H|H⟩);exact .inl (.inl rfl);by_cases G:t=s;subst G;rw[CG]at H;rcases hl k H with h|h;exact .inl (.inr ⟨t,z,.inl h⟩);exact .inr h;rw[BE _ _ G]at H;exact .inl (.inr ⟨t,z,.inl H⟩);exact .inl (.inr ⟨t,z,.inr H⟩)
theorem eV (R:Qi p w c P m I) (s:Nat) (hs:s < 3) (b:z10) (Z:(c.fl s).kept.length < 24):
  Cp 185 #[Er w 0,Ej s,.string b] p λe w'=>Rr e (.tuple #[])/\CC p w' w (c.Xm s b) P m I:=by
 obtain⟨c0,c1,c2⟩:=DR R s hs;have aa:(s:Int) < 3:=by omega
 have F:=y' R;clear R c0 c2;go_enter func185,ntmps185;go_wp2_with (at_builtin;refine DZ rfl (.tmp 16) (.tmp 19) 166 rfl 265 _ 2 24 underlying166 vP rfl (m s) (c.fl s).kept.length (BO (c.fl s).kept) (((d' F).kept s hs).keep (λg M=>z35 p _ g (((d' F).kept s hs).lt g M))) rfl ⟨p.heap.size,0,none⟩ 1 1 [.string b,Ej 0] rfl rfl AW (by intro u hu;simp at hu;rcases hu with rfl|rfl <;> rfl) (by omega) (by omega) (by omega) ?_;intro v' w1 z G;rw[<-NL]at z;have Q:=(d' F).keptStep s hs (IL bna G) (MH bna G) (x:=(c.fl s).kept++[(b,0)]) (by simpa using z) (by simp;omega);obtain⟨⟨C,H,J⟩,hst⟩:=Q;have ab:=(D' (i:=5+s * 3+1) H).trans J;have f1:=H' (i:=5+s * 3+1) H;obtain⟨ac,ad,V,_⟩:=z.shape;have Y:=y' hst;clear G hst H J z;subst V);refine z74 (z64 rfl _ _ _) rfl ?_;exact⟨rfl,d' Y⟩
