/- Part 2. -/
import Derived.Laws.ResultCell
import Derived.Deep.RegionHeld3
import Derived.Lib.BufferWrite
import Derived.Test.YtamafdcnbcoegaaGreatOj1
set_option maxRecDepth 100000
set_option maxHeartbeats 40000000
namespace Go.Proofs.YtamafdcnbcoegaaGreat
attribute [local simp, local go_sem] Ev Ep Ei Eb Et
abbrev z19:= @Go.heap_alloc_new
abbrev z28:= @List.getElem?_eq_some_iff
abbrev z38:= @List.append_assoc
abbrev z39:= @Go.World.cell?_of_block
abbrev z43:= @List.length_map
abbrev z65:= @Go.results_none
abbrev z68:= @List.eq_nil_of_length_eq_zero
abbrev z71:= @List.length_take
abbrev z74:= @Go.run_underlying
abbrev z77:= @Go.bodyPost_end
abbrev z78:= @List.mem_iff_getElem
abbrev z79:= @Go.World.size_setCell
abbrev z80:= @List.nil_append
abbrev z81:= @List.getElem_mem
abbrev z92:= @Go.setRow_heap
abbrev z96:= @List.map_append
abbrev z97:= @List.length_drop
abbrev z98:= @List.size_toArray
abbrev z99:= @List.getElem?_set
abbrev un':= @Go.World.cell?_setCell_same
abbrev xN':= @Array.toList_setIfInBounds
abbrev zh':= @Go.World.size_alloc
abbrev vK':= @Nat.add_sub_cancel_left
abbrev zi':= @Array.toList_append
abbrev zj':= @Array.length_toList
abbrev zk':= @List.drop_append_of_le_length
abbrev xO':= @Go.World.ownsRow.frozenAt
abbrev pu':= @Go.setRow_other
abbrev xP':= @Array.size_append
abbrev xQ':= @Nat.mul_le_mul_right
abbrev xR':= @Go.grownCap_le_maxLen
abbrev Ah':= @List.getElem?_replicate
abbrev xS':= @Nat.min_eq_left
abbrev vL':= @List.take_take
abbrev zl':= @List.set_append_right
abbrev zm':= @List.contains_iff_mem
abbrev zn':= @List.take_length
abbrev xT':= @List.length_set
abbrev zo':= @List.drop_take
abbrev z209:= @Go.size_zeroCells
open Go.RowKit Go.Proofs.Tryz
variable{w:Nat}
theorem hao (z:World) (o:Obj) (h:w < z.heap.size):(z.alloc o).heap[w]? =z.heap[w]? :=by
 show(z.heap.push o)[w]? = _;rw[Array.getElem?_push_lt h,z75 h]
variable{M X aI:Int}
theorem sf' {k:Int} {b:z10} (h:¬ (0<=M/\M<=2147483647/\0<=aI/\aI<=2147483647/\0<=X/\X < 3)):Qb.proper k M X aI b=false:=by
 cases z:Qb.proper k M X aI b
 ·rfl
 ·obtain⟨h1,h2,h3,h4,h5⟩:=cr' z;omega
theorem mg' (k e s q:Int) (b:z10) (w:World) (h:¬ (0<=e/\e<=2147483647/\0<=q/\q<=2147483647/\0<=s/\s < 3)):
  Calls prog 113 #[.agg #[.int .i64 k, .int .i64 e, .int .i64 s, .int .i64 q, .string b]] w fun r w'=>r= .returned (.bool (Qb.proper k e s q b))/\Below w.heap.size w w':=by
 have G:=m' (sf' (k:=k) (b:=b) h);by_cases z:0<=e/\e<=2147483647
 ·by_cases F:0<=q/\q<=2147483647
  ·have hs:s < 0\/3<=s:=(by omega);rcases hs with hs|hs;all_goals
    clear h;obtain⟨H,I⟩:=z;obtain⟨O,Q⟩:=F;go_enter func113,ntmps113;go_wp2;go_ret;exact⟨aR' (d' G).symm,(z11 _ _).alloc (z13 _) _⟩
  ·have J:q < 0\/2147483647 < q:=(by omega);clear h F;rcases J with F|F;all_goals
    obtain⟨H,I⟩:=z;go_enter func113,ntmps113;go_wp2;go_ret;exact⟨aR' (d' G).symm,(z11 _ _).alloc (z13 _) _⟩
 ·have M:e < 0\/2147483647 < e:=by omega
  clear h z;rcases M with z|z;all_goals
   go_enter func113,ntmps113;go_wp2;go_ret;exact⟨aR' (d' G).symm,(z11 _ _).alloc (z13 _) _⟩
theorem pv' (k e s q:Int) (b:z10) (w:World) (h:0<=e/\e<=2147483647/\0<=q/\q<=2147483647/\0<=s/\s < 3) (z:k=1\/k=5):
  Calls prog 113 #[.agg #[.int .i64 k, .int .i64 e, .int .i64 s, .int .i64 q, .string b]] w fun r w'=>r= .returned (.bool (Qb.proper k e s q b))/\Below w.heap.size w w':=by
 have F:Hid (Qb.proper k e s q b=(decide (s=0) && (decide (q=0) &&decide (b.size=0)))):=by show _= _;simp[Qb.proper,Qb.isNum,h.1,h.2.1,z]
 have hk:(k==1)=true\/((k==1)=false/\(k==5)=true):=by rcases z with rfl|rfl <;> simp
 obtain⟨H,I,J,M,s0,s1⟩:=h;clear z;rcases hk with hk|⟨hk,O⟩;all_goals
  go_enter func113,ntmps113;go_wp2;all_goals
   go_ret;refine⟨aR' ?_,(z11 _ _).alloc (z13 _) _⟩;have F:=d' F;have G:((b.size:Int) ==0)=decide (b.size=0):=by by_cases h:b.size=0 <;> simp[h]
   try simp only[G]
   clear G;simp_all
theorem pw' (k e s q:Int) (b:z10) (w:World) (h:0<=e/\e<=2147483647/\0<=q/\q<=2147483647/\0<=s/\s < 3) (hk:k=2) (hb:b.size<=9223372036854775807):
  Calls prog 113 #[.agg #[.int .i64 k, .int .i64 e, .int .i64 s, .int .i64 q, .string b]] w fun r w'=>r= .returned (.bool (Qb.proper k e s q b))/\Below w.heap.size w w':=by
 subst hk;have F:Hid (Qb.proper 2 e s q b=(decide (s=0) && (decide (q=0) &&Qb.Xh b))):=by show _= _;simp[Qb.proper,Qb.isNum,h.1,h.2.1]
 obtain⟨ad,ah,ai,aj,s0,s1⟩:=h;by_cases hs:s=0
 ·by_cases z:q=0
  ·by_cases H:(b.size:Int)=12
   ·have G:Hid (Qb.proper 2 e s q b=Qb.Xh b):=(by show _= _;rw[d' F,hs,z];simp);have ak:=m' z;have ao:=m' hs;have Q:(s==0)=true:=(by simp[hs]);have Y:(q==0)=true:=(by simp[z]);have hn:((b.size:Int) !=12)=false:=(by simp[H]);have Z:=m' H;clear F hs z H;go_enter func113,ntmps113;go_wp2;go_loopw[5,6,64,65,68,69,70,71,72,73] (fun i _ _ _ _ _ _ _ _ _ wr=>∃j:Nat,j<=3/\i= .int .i64 (4 * j:Nat)/\pk' b j/\∃n,wr=(w.alloc (.cells #[.int .i64 2, .int .i64 e, .int .i64 s, .int .i64 q, .string b] 41)).drewN n) (fun i _ _ _ _ _ _ _ _ _ _=>12 - (intOf i).toNat)
    case atStart=>exact⟨0,by omega,rfl,ud' b,0,rfl⟩
    case round=>
     obtain⟨j,hj,rfl,I,n,rfl⟩:=hrel;by_cases ab:j < 3
     ·have V:=fun w'=>m' (dw' b (4 * j) w' (by have:=d' Z;omega) hb);have M:=fun h=>ue' (k:=j) I h;have O:=fun h=>sb' (s:=b) ab h;generalize Qb.Qg b.data.toList (4 * j)=m at V M O;by_cases ac:m<=2147483647
      ·have J:Hid (pk' b (j+1)):=M ac;clear M O I;go_wp2_with (go_at_call 166;refine(d' (V _)).mono ?_;rintro r w' ⟨rfl,aa,rfl⟩);go_roundw
       case rel=>exact⟨j+1,by omega,by go_num,J.out,n+aa,by simp⟩
       case measure=>simp[intOf];omega
      ·have J:Hid (Qb.Xh b=false):=O (by omega);clear M O I;go_wp2_with (go_at_call 166;refine(d' (V _)).mono ?_;rintro r w' ⟨rfl,aa,rfl⟩);go_ret;exact⟨aR' (by rw[d' G,d' J]),z41 ((z11 _ _).alloc (z13 _) _) _⟩
     ·have J:Hid (Qb.Xh b=true):=pm' (d' Z) (by obtain rfl:j=3:=(by omega);exact I);clear I;go_wp2;go_ret;exact⟨aR' (by rw[d' G,d' J]),z41 ((z11 _ _).alloc (z13 _) _) _⟩
   ·have G:Hid (Qb.proper 2 e s q b=false):=(by show _= _;rw[d' F];simp[Qb.Xh];omega);have Q:(s==0)=true:=(by simp[hs]);have Y:(q==0)=true:=(by simp[z]);have hn:((b.size:Int) !=12)=true:=(by simp[H]);clear F hs z H;go_enter func113,ntmps113;go_wp2;go_ret;exact⟨aR' (d' G).symm,(z11 _ _).alloc (z13 _) _⟩
  ·have G:Hid (Qb.proper 2 e s q b=false):=(by show _= _;rw[d' F];simp[z]);have Q:(s==0)=true:=(by simp[hs]);have Y:(q==0)=false:=(by simp[z]);clear F hs z;go_enter func113,ntmps113;go_wp2;go_ret;exact⟨aR' (d' G).symm,(z11 _ _).alloc (z13 _) _⟩
 ·have G:Hid (Qb.proper 2 e s q b=false):=by show _= _;rw[d' F];simp[hs]
  have Q:(s==0)=false:=by simp[hs]
  clear F hs;go_enter func113,ntmps113;go_wp2;go_ret;exact⟨aR' (d' G).symm,(z11 _ _).alloc (z13 _) _⟩
theorem px' (k e s q:Int) (b:z10) (w:World) (h:0<=e/\e<=2147483647/\0<=q/\q<=2147483647/\0<=s/\s < 3) (hk:k=3):
  Calls prog 113 #[.agg #[.int .i64 k, .int .i64 e, .int .i64 s, .int .i64 q, .string b]] w fun r w'=>r= .returned (.bool (Qb.proper k e s q b))/\Below w.heap.size w w':=by
 subst hk;have z:Hid (Qb.proper 3 e s q b=(decide (1<=q) &&decide ((b.size:Int)<=20))):=by
  show _= _;have F:decide (q≠0)=decide (1<=q):=by rw[rV'];omega
  have G:decide (b.size<=20)=decide ((b.size:Int)<=20):=by rw[rV'];omega
  simp only[Qb.proper,Qb.isNum,Qb.isStr,decide_eq_true h.1,decide_eq_true h.2.1,decide_eq_true h.2.2.1,decide_eq_true h.2.2.2.1,decide_eq_true h.2.2.2.2.1,decide_eq_true h.2.2.2.2.2,Bool.true_and,F,G];rfl
 obtain⟨H,F,I,J,s0,s1⟩:=h;go_enter func113,ntmps113;go_wp2;all_goals
  go_ret;refine⟨aR' ?_,(z11 _ _).alloc (z13 _) _⟩;have z:=d' z;simp_all <;> omega
theorem py' (k e s q:Int) (b:z10) (w:World) (h:0<=e/\e<=2147483647/\0<=q/\q<=2147483647/\0<=s/\s < 3) (hk:k=4):
  Calls prog 113 #[.agg #[.int .i64 k, .int .i64 e, .int .i64 s, .int .i64 q, .string b]] w fun r w'=>r= .returned (.bool (Qb.proper k e s q b))/\Below w.heap.size w w':=by
 subst hk;have F:Hid (Qb.proper 4 e s q b=Qb.Jj b):=by show _= _;simp only[Qb.proper,Qb.isNum,Qb.isStr,decide_eq_true h.1,decide_eq_true h.2.1,decide_eq_true h.2.2.1,decide_eq_true h.2.2.2.1,decide_eq_true h.2.2.2.2.1,decide_eq_true h.2.2.2.2.2,Bool.true_and];rfl
 obtain⟨H,I,J,M,s0,s1⟩:=h;by_cases h1:(b.size:Int)=1
 ·have G:0 < b.size:=by omega
  have z:=m' (jg' h1 G);go_enter func113,ntmps113;go_wp2;all_goals
   go_ret;exact⟨aR' (by rw[d' F,d' z]),(z11 _ _).alloc (z13 _) _⟩
 ·have z:=m' (kl' h1);go_enter func113,ntmps113;go_wp2;all_goals
   go_ret;exact⟨aR' (by rw[d' F,d' z]),(z11 _ _).alloc (z13 _) _⟩
theorem mh' (k e s q:Int) (b:z10) (w:World) (hb:b.size<=9223372036854775807):
  Calls prog 113 #[.agg #[.int .i64 k, .int .i64 e, .int .i64 s, .int .i64 q, .string b]] w fun r w'=>r= .returned (.bool (Qb.proper k e s q b))/\Below w.heap.size w w':=by
 by_cases h:0<=e/\e<=2147483647/\0<=q/\q<=2147483647/\0<=s/\s < 3
 ·by_cases z:k=1\/k=5
  ·exact pv' k e s q b w h z
  by_cases h2:k=2
  ·exact pw' k e s q b w h h2 hb
  by_cases h3:k=3
  ·exact px' k e s q b w h h3
  by_cases h4:k=4
  ·exact py' k e s q b w h h4
  have F:Hid (Qb.proper k e s q b=false):=by show _= _;simp[Qb.proper,z,h2,h3,h4]
  have G:(k==1)=false:=by simp;omega
  have b2:(k==2)=false:=by simp;omega
  have b3:(k==3)=false:=by simp;omega
  have H:(k==4)=false:=by simp;omega
  have I:(k==5)=false:=by simp;omega
  obtain⟨J,M,O,Q,s0,s1⟩:=h;clear z h2 h3 h4;go_enter func113,ntmps113;go_wp2;all_goals
   go_ret;exact⟨aR' (d' F).symm,(z11 _ _).alloc (z13 _) _⟩
 ·exact mg' k e s q b w h
variable{p u:World}{a:Nat}
theorem pz' (h:Below w p u) (z:w<=a) (F b c d e:Value):
  Below w p (((((u.setCell ⟨a,0,none⟩ F).setCell ⟨a,1,none⟩ b).setCell ⟨a,2,none⟩ c).setCell ⟨a,3,none⟩ d).setCell ⟨a,4,none⟩ e):=
 ((((h.setCell (p:=⟨a,0,none⟩) z F).setCell (p:=⟨a,1,none⟩) z b).setCell (p:=⟨a,2,none⟩) z c).setCell (p:=⟨a,3,none⟩) z d).setCell (p:=⟨a,4,none⟩) z e
variable{q r:Nat}{c f:Value}
theorem ef' (h:p.cell? ⟨w,q,none⟩=some c) (z:a≠w):(p.setCell ⟨a,r,none⟩ f).cell? ⟨w,q,none⟩=some c:=by
 exact(World.cell?_setCell_other (w:=p) (a:=⟨a,r,none⟩) (b:=⟨w,q,none⟩) (v:=f) (by intro e;injection e with F;exact z F)).trans h
theorem aZ' (h:p.cell? ⟨w,a,none⟩=some c) (z:q≠a):(p.setCell ⟨w,q,none⟩ f).cell? ⟨w,a,none⟩=some c:=by
 exact(World.cell?_setCell_other (w:=p) (a:=⟨w,q,none⟩) (b:=⟨w,a,none⟩) (v:=f) (by intro e;injection e with _ F;exact z F)).trans h
variable{aM:Int}{o:z10}
theorem kw' (h:Xx p w M X aI aM o) (z:a≠w) (a0 a1 a2 a3 a4:Value):
  Xx (((((p.setCell ⟨a,0,none⟩ a0).setCell ⟨a,1,none⟩ a1).setCell ⟨a,2,none⟩ a2).setCell ⟨a,3,none⟩ a3).setCell ⟨a,4,none⟩ a4) w M X aI aM o:=by
 obtain⟨h0,h1,h2,h3,h4⟩:=h;constructor;all_goals
  refine ef' (ef' (ef' (ef' (ef' ?_ z) z) z) z) z;assumption
theorem vM' (z:World) (h0:∃v,z.cell? ⟨w,0,none⟩=some v) (h1:∃v,z.cell? ⟨w,1,none⟩=some v) (h2:∃v,z.cell? ⟨w,2,none⟩=some v) (h3:∃v,z.cell? ⟨w,3,none⟩=some v) (h4:∃v,z.cell? ⟨w,4,none⟩=some v)
  (k e s q:Int) (body:z10):
  Xx (((((z.setCell ⟨w,0,none⟩ (.int .i64 k)).setCell ⟨w,1,none⟩ (.int .i64 e)).setCell ⟨w,2,none⟩ (.int .i64 s)).setCell ⟨w,3,none⟩ (.int .i64 q)).setCell ⟨w,4,none⟩ (.string body)) w k e s q body:=by
 obtain⟨v0,h0⟩:=h0;obtain⟨v1,h1⟩:=h1;obtain⟨F,h2⟩:=h2;obtain⟨v3,h3⟩:=h3;obtain⟨v4,h4⟩:=h4;constructor
 ·exact aZ' (aZ' (aZ' (aZ' (un' _ _ _ h0) (by decide)) (by decide)) (by decide)) (by decide)
 ·exact aZ' (aZ' (aZ' (un' _ _ _ (aZ' h1 (by decide))) (by decide)) (by decide)) (by decide)
 ·exact aZ' (aZ' (un' _ _ _ (aZ' (aZ' h2 (by decide)) (by decide))) (by decide)) (by decide)
 ·exact aZ' (un' _ _ _ (aZ' (aZ' (aZ' h3 (by decide)) (by decide)) (by decide))) (by decide)
 ·exact un' _ _ _ (aZ' (aZ' (aZ' (aZ' h4 (by decide)) (by decide)) (by decide)) (by decide))
theorem mi' (S:z10) (w:World) (h:(S.size:Int) < 15):
  Calls prog 117 #[.string S] w fun r w'=>r= .returned (.tuple #[bI', .bool false])/\Below w.heap.size w w':=by
 go_enter func117,ntmps117;go_wp2;refine z50 (v:= .tuple #[bI', .bool false]) (by simp[results,results117,go_sem,bI']) rfl ⟨rfl,?_⟩;exact(z11 _ _).alloc (z13 _) _
def yQ' (B:Nat) (v:Value) (w:World):Prop:=∃g,v= .pointer (some ⟨g,0,none⟩)/\B<=g/\Xx w g 0 0 0 0 ⟨#[]⟩/\∀i,w.frozen? ⟨g,i,none⟩=false
theorem nY' (B:Nat):bm' (yQ' B):=by
 rintro v w w' ⟨g,rfl,G,z,H⟩ hb;have F:g < w.heap.size:=z66 _ _ z.c0;exact⟨g,rfl,G,z.below hb F,fun i=>(hb.frozen (p:=⟨g,i,none⟩) F).trans (H i)⟩
theorem nZ' (S:z10) (k:Nat) (hk:S.size=k+15) (w:World) (aY:S.size<=9223372036854775807) (F J G M:Int) (O:z10) (aB:S.extract 11 (k+11)=O)
  (aQ:0<=F/\F < 4294967296) (aR:0<=G/\G < 4294967296)
  (aZ:0 < S.size) (ba:5 < S.size) (aC:(S[0].toNat:Int)=F) (aD:(S[5].toNat:Int)=G)
  (ap:∀w',Hid (Calls prog 166 #[.string S, .int .i64 1] w' fun e Q=>e= .returned (.int .i64 J)/\∃n,Q=w'.drewN n))
  (aq:∀w',Hid (Calls prog 166 #[.string S, .int .i64 6] w' fun e Q=>e= .returned (.int .i64 M)/\∃n,Q=w'.drewN n))
  (p:Bool) (aa:∀w',Hid (Calls prog 113 #[.agg #[.int .i64 F, .int .i64 J, .int .i64 G, .int .i64 M, .string O]] w' fun r Q=>r= .returned (.bool p)/\Below w'.heap.size w' Q))
  (T:z10) (au:p=true->∀w',Hid (Calls prog 51 #[.agg #[.int .i64 F, .int .i64 J, .int .i64 G, .int .i64 M, .string O]] w' fun r Q=>r= .returned (.string T)/\Below w'.heap.size w' Q)):
  Calls prog 117 #[.string S] w fun r w'=>r= .returned (if p=true then .tuple #[.agg #[.int .i64 F, .int .i64 J, .int .i64 G, .int .i64 M, .string O], .bool (T.toList==S.toList)]else .tuple #[bI', .bool false])/\Below w.heap.size w w':=by
 have bb:(15:Int)<=(S.size:Int):=by omega
 have i0:(0:Int) < (S.size:Int):=by omega
 have i5:(5:Int) < (S.size:Int):=by omega
 have bc:(4:Int)<=(S.size:Int):=by omega
 have g1:IntKind.i64.wrap ((S.size:Int) - 4)=(k:Int)+11:=by rw[z36];omega
 have bd:(S.size:Int) - 4=(k:Int)+11:=by omega
 have be:IntKind.i64.wrap ((k:Int)+11)=(k:Int)+11:=by rw[z36];omega
 have t1:((k:Int)+11).toNat=k+11:=by omega
 have bf:(11:Int)<=(k:Int)+11:=by omega
 have bg:(k:Int)+11<=(S.size:Int):=by omega
 have bh:=dj' aQ;have bi:=dj' aR;have bj:k+11<=S.size:=by omega
 clear hk;go_enter func117,ntmps117;go_upto_region 3 with fail;refine ab'
  [Ev (.string S),Ev (.int .u8 F),Ei F,Ev (.string S),Ei J,Ev (.string S),Ev (.int .u8 G),Ei G,
   Ev (.string S),Ei M,Ev (.string S),Ev (.string S),Ei S.size,Ei ((k:Int)+11),Ev (.string O),
   Ev (.agg #[.int .i64 F, .int .i64 J, .int .i64 G, .int .i64 M, .string O]),yQ' (w.heap.size+1),Et]
  [[0],[1011],[2012],[0],[4014],[0],[6016],[7017],[0],[9019],[0],[0],[12022],[13023],[11021,14024],[3013,5015,8018,10020,15025],[],[17004,16026]]
  [12,13,14,15,16,17,18,19,20,21,22,23,24,25,26,27,5,0]
  [4,1,6,16,999]
  17 _ rfl rfl ?_ ?_ (hst:=by repeat' (first|exact V' _|exact nY' _|exact aj'|exact trivial|apply z12))
 ·refine⟨?_,?_,?_,?_,?_,?_,?_,?_,?_,?_,?_,?_,?_,?_,?_,?_,?_,trivial⟩;all_goals
   intro a x hb aS;have V:=hb.size;simp only[World.size_alloc]at V;clear hb;simp[I']at aS;try go_simp
   try exact z11 _ _
  ·refine(d' (ap _)).mono ?_;rintro r w1 ⟨rfl,n2,rfl⟩;exact⟨rfl,z41 (z11 _ _) _⟩
  ·refine(d' (aq _)).mono ?_;rintro r w1 ⟨rfl,n2,rfl⟩;exact⟨rfl,z41 (z11 _ _) _⟩
  ·exact⟨_,rfl,(z11 _ _).alloc (z13 _) _,_,rfl,V,dX' _ _ _ _ _ _ _,by intro i;simp⟩
 ·intro f x hb aE;simp only[ag',List.take]at aE;obtain⟨_,_,_,_,_,_,_,_,_,_,_,_,_,_,_,aT,⟨g,aU,bk,aF,H⟩,_⟩:=aE;have V:=hb.size;simp only[World.size_alloc]at V;have aG:=(dX' w 0 0 0 0 ⟨#[]⟩ 41).below hb (by simp);have aH:∀i,x.frozen? ⟨w.heap.size,i,none⟩=false:=fun i=>(hb.frozen (p:=⟨w.heap.size,i,none⟩) (by simp)).trans (by simp);have aI:g < x.heap.size:=z66 _ _ aF.c0;have aJ:=m' (((z11 w.heap.size w).alloc (z13 _) (.cells #[.int .i64 0, .int .i64 0, .int .i64 0, .int .i64 0, .string ⟨#[]⟩] 41)).trans (hb.mono (by simp)));obtain⟨aK,aL,aM,aN,aO⟩:=aF;have av:=H 0;have ax:=H 1;have ay:=H 2;have Y:=H 3;have az:=H 4;clear hb H;simp only[O',aT,aU];have bl:g≠w.heap.size:=by omega
  go_simp;go_upto_region 4 with fail;refine G' (fun X=>Xx X w.heap.size 0 0 0 0 ⟨#[]⟩/\Xx X g F J G M O/\(∀i,X.frozen? ⟨w.heap.size,i,none⟩=false)/\Below w.heap.size w X/\g < X.heap.size) ⟨?_,?_,?_,?_,?_⟩ ?_
  ·exact kw' aG (by omega) _ _ _ _ _
  ·exact vM' _ ⟨_,aK⟩ ⟨_,aL⟩ ⟨_,aM⟩ ⟨_,aN⟩ ⟨_,aO⟩ _ _ _ _ _
  ·intro i;simp[aH]
  ·exact pz' (d' aJ) (by omega) _ _ _ _ _
  ·simpa using aI
  clear aG aH aI aJ aK aL aM aN aO av ax ay Y az V;rintro X ⟨z0,f0,H,ab,aA⟩;obtain⟨ac,ad,ah,ai,aj⟩:=id f0;cases p
  ·go_upto_if 30 with (go_at_call 113;refine(d' (aa _)).mono ?_;rintro r ak ⟨rfl,I⟩)
   obtain⟨bm,bn,bo,bp,bq⟩:=z0.below I (by omega);have z:∀i,ak.frozen? ⟨w.heap.size,i,none⟩=false:=fun i=>(I.frozen (p:=⟨w.heap.size,i,none⟩) (by simp;omega)).trans (H i);have av:=z 0;have ax:=z 1;have ay:=z 2;have Y:=z 3;have az:=z 4;have ao:=ab.trans (I.mono (by omega));clear z I z0 f0 H ac ad ah ai aj aa ab aA au ap aq aC aD aB;go_wp2;refine z50 (v:= .tuple #[bI', .bool false]) (by simp[results,results117,go_sem,bI', *]) rfl ⟨rfl,?_⟩;exact di' ao _ _ _ _ _
  ·go_upto_region 7 with (go_at_call 113;refine(d' (aa _)).mono ?_;rintro r ak ⟨rfl,I⟩)
   have f3:=f0.below I aA;have z3:=z0.below I (by omega);have Y:∀i,ak.frozen? ⟨w.heap.size,i,none⟩=false:=fun i=>(I.frozen (p:=⟨w.heap.size,i,none⟩) (by simp;omega)).trans (H i);have ao:=ab.trans (I.mono (by omega));have s3:=I.size;have aV:g < ak.heap.size:=(by omega);have aP:=m' (au trivial);clear I z0 f0 H ac ad ah ai aj aa ab aA au ap aq aC aD aB;obtain⟨ac,ad,ah,ai,aj⟩:=id f3;go_upto_region 8 with (go_at_call 51;refine(d' (d' aP _)).mono ?_;rintro r aW ⟨rfl,Z⟩);obtain⟨u0,u1,u2,u3,u4⟩:=f3.below Z aV;obtain⟨z0,br,bt,bu,z4⟩:=z3.below Z (by omega);have z:∀i,aW.frozen? ⟨w.heap.size,i,none⟩=false:=fun i=>(Z.frozen (p:=⟨w.heap.size,i,none⟩) (by simp;omega)).trans (Y i);have av:=z 0;have ax:=z 1;have ay:=z 2;have Y:=z 3;have az:=z 4;have aX:=ao.trans (Z.mono (by omega));clear z Z f3 z3 ac ad ah ai aj aP ao;go_wp2;refine z50 (v:= .tuple #[.agg #[.int .i64 F, .int .i64 J, .int .i64 G, .int .i64 M, .string O], .bool (T.toList==S.toList)]) (by simp[results,results117,go_sem, *]) rfl ⟨rfl,?_⟩;exact di' aX _ _ _ _ _
theorem oa' (S:z10) (k:Nat) (hk:S.size=k+15):S.extract 11 (k+11)=Qb.Ju S.data.toList:=by
 apply tY';rw[ByteArray.data_extract];unfold Qb.Ju;apply vx';have hl:S.data.toList.length - 4=k+11:=by
  have:S.data.toList.length=S.size:=by simp
  omega
 rw[hl];simp[List.extract_eq_take_drop,List.drop_take]
theorem jk' (S:z10):S.toList=S.data.toList:=z204 S
theorem tD' (S:z10) (i:Nat) (h:i < S.size):S.data.toList.getD i 0=S[i]:=by
 have hl:i < S.data.toList.length:=by simpa using h
 rw[z17,z18 hl];rfl
def hD' (l:List UInt8):Bool:=decide (15<=l.length) &&Qb.proper (Qb.Jr l) (Qb.Jm l) (Qb.Qu l) (Qb.Xt l) (Qb.Ju l)
def cV' (l:List UInt8):Value:=if hD' l=true then jh' l else bI'
variable{m:List UInt8}
theorem jl' (h:Qb.reads m=true):cV' m=jh' m:=by
 unfold Qb.reads at h;rw[z58]at h;have h2:=h.1;unfold Qb.whole at h2;rw[z58]at h2;unfold cV' hD';rw[h2.1,h.2];rfl
theorem gx' (l:List UInt8):∃k e s q b,cV' l= .agg #[.int .i64 k, .int .i64 e, .int .i64 s, .int .i64 q, .string b]:=by
 unfold cV';split
 ·exact⟨_,_,_,_,_,rfl⟩
 ·exact⟨_,_,_,_,_,rfl⟩
theorem jm' (S:z10) (w:World) (H:S.size<=9223372036854775807):
  Calls prog 117 #[.string S] w fun r w'=>r= .returned (.tuple #[cV' S.data.toList, .bool (Qb.reads S.data.toList)])/\Below w.heap.size w w':=by
 have O:S.data.toList.length=S.size:=by simp
 by_cases Q:S.size < 15
 ·refine(mi' S w (by omega)).mono ?_;rintro r w' ⟨rfl,hb⟩;have F:Qb.reads S.data.toList=false:=by unfold Qb.reads Qb.whole;rw[z52 (by omega)];simp
  have G:cV' S.data.toList=bI':=by unfold cV' hD';rw[z52 (by omega)];simp
  exact⟨by rw[F,G],hb⟩
 ·obtain⟨k,hk⟩:∃k,S.size=k+15:=⟨S.size - 15,by omega⟩;have k1:=hp' S.data.toList;have k3:=fq' S.data.toList;have J:(Qb.Ju S.data.toList).size<=9223372036854775807:=by show((S.data.toList.take (S.data.toList.length - 4)).drop 11).toArray.size<= _;rw[z98,z97,z71];omega
  refine(nZ' S k hk w H (Qb.Jr S.data.toList) (Qb.Jm S.data.toList) (Qb.Qu S.data.toList) (Qb.Xt S.data.toList) (Qb.Ju S.data.toList) (oa' S k hk) ⟨k1.1,by omega⟩ ⟨k3.1,by omega⟩
   (by omega) (by omega) (by unfold Qb.Jr;rw[tD' S 0 (by omega)]) (by unfold Qb.Qu;rw[tD' S 5 (by omega)])
   (fun w'=>dw' S 1 w' (by omega) H) (fun w'=>dw' S 6 w' (by omega) H) _ (fun w'=>mh' _ _ _ _ _ w' J) _ (fun z w'=>bY' _ _ _ _ _ w' z)).mono ?_
  rintro r w' ⟨rfl,hb⟩;cases z:Qb.proper (Qb.Jr S.data.toList) (Qb.Jm S.data.toList) (Qb.Qu S.data.toList) (Qb.Xt S.data.toList) (Qb.Ju S.data.toList)
  ·have F:Qb.reads S.data.toList=false:=(by unfold Qb.reads;rw[z,Bool.and_false]);have G:cV' S.data.toList=bI':=(by unfold cV' hD';rw[z];simp);exact⟨by rw[F,G];rfl,hb⟩
  ·have G:cV' S.data.toList=jh' S.data.toList:=(by unfold cV' hD';rw[z,z47 (by omega)];rfl);have F:((⟨(Qb.bytes (Qb.Jr S.data.toList) (Qb.Jm S.data.toList) (Qb.Qu S.data.toList) (Qb.Xt S.data.toList) (Qb.Ju S.data.toList).data.toList).toArray⟩:z10).toList==S.toList)=Qb.reads S.data.toList:=by
    unfold Qb.reads;rw[z,Bool.and_true,jk',jk'];cases I:Qb.whole S.data.toList
    ·apply beq_eq_false_iff_ne.2;intro e;obtain⟨h1,h2,h3,h4,h5⟩:=cr' z;have:=(Qb.parts_bytes (k:=Qb.Jr S.data.toList) (e:=Qb.Jm S.data.toList) (s:=Qb.Qu S.data.toList) (q:=Qb.Xt S.data.toList) (b:=Qb.Ju S.data.toList) (by omega) (by omega) (by omega) (by omega) (by omega)).1;have M:Qb.bytes (Qb.Jr S.data.toList) (Qb.Jm S.data.toList) (Qb.Qu S.data.toList) (Qb.Xt S.data.toList) (Qb.Ju S.data.toList).data.toList=S.data.toList:=e;rw[M,I]at this;cases this
    ·apply vt'.2;simpa using Qb.whole_bytes I
   exact⟨by rw[if_pos rfl,F,G];rfl,hb⟩
def Row (A:Nat->Prop) (w:World) (e:TypeId) (v:Value) (xs:List Value):Prop:=w.ownsRow 0 e 1 v xs.length xs/\∀g,v.ownBlock=some g->A g
variable{j:TypeId}{t:List Value}
theorem L' {w':World} (h:p.ownsRow w j 1 c a t) (hk:∀g,c.ownBlock=some g->w'.heap[g]? =p.heap[g]?):w'.ownsRow w j 1 c a t:=by
 obtain⟨h1,h2⟩:=h;refine⟨h1,?_⟩;rcases h2 with h2|⟨g,cap,z,rfl,hb,F,r⟩
 ·exact .inl h2
 ·exact .inr ⟨g,cap,z,rfl,hb,by rw[hk g rfl];exact F,r⟩
theorem Row.shape {A:Nat->Prop} {w:World} {e:TypeId} {v:Value} {xs:List Value} (h:Row A w e v xs):∃z cap,v= .slice z xs.length cap/\xs.length<=cap/\cap<=maxLen/\
  (0 < xs.length->∃g,z=some ⟨g,0,none⟩/\A g/\∀i,i < xs.length->w.cell? ⟨g,i,none⟩=xs[i]?):=by
 obtain⟨h0,F⟩:=h;have G:=h0;obtain⟨h1,h2⟩:=h0;rcases h2 with ⟨e,h2⟩|⟨g,cap,J,e,M,O,H,I,_,Q⟩
 ·exact⟨none,0,by rw[h2];exact e,by omega,by unfold maxLen;omega,fun h=>by omega⟩
 ·subst e;exact⟨_,cap,rfl,H,I,fun _=>⟨g,rfl,F g rfl,fun i hi=>z59 G i (by omega)⟩⟩
structure App (w w':World) (v v':Value):Prop where
 grown:w.grownBy w' v.ownBlock
 where_:v'.ownBlock=v.ownBlock\/(w.grownBy w' none/\∃g,v'.ownBlock=some g/\w.heap.size<=g)
theorem pA' {P:Program} (w:World) (t ty e:TypeId) (i:TypeInfo) (H:Value) (bytes:Nat) (M:P.underlying t=some (.slice e)) (hi:P.info? e=some i) (aa:i.zero=some H) (I:i.size=1) (ab:i.bytes=bytes) (ac:H.cells.size=1)
  (v:Value) (xs:List Value) (ad:w.ownsRow 0 e 1 v xs.length xs) (F:Addr) (u:Value) (hu:w.cell? F=some u) (h1:u.oneCell'=true) (hb:(xs.length+1) * bytes<=140737488355328) (hl:xs.length+1<=140737488355328):
  ∃v' w',(Builtin.append_ #[t,t] ty #[v, .slice (some F) 1 1]).run P w= .ok v' w'/\w'.ownsRow 0 e 1 v' (xs++[u]).length (xs++[u])/\w'.ownsRow 0 e 1 v xs.length xs/\App w w' v v':=by
 have O:∀j x,[u][j]? =some x->w.cell? (F.add j)=some x:=by
  intro j x hj;match j,hj with
  |0,hj=>simp at hj;subst hj;simpa[Addr.add]using hu
 have ai:xs.length+1<=maxLen:=by unfold maxLen;omega
 have Q:=ad;obtain⟨aj,ak⟩:=ad;rcases ak with ⟨rfl,h0⟩|⟨g,cap,aC,rfl,aD,ao,ap,aE,aF,aG⟩
 ·have J:xs=[]:=z68 h0;subst J;have G:=run_append_nil (P:=P) w t ty e i H M hi aa F 1 1 [u] (by simp[I]) O (by omega) (by omega) (by rw[ab];simp at hb;omega);have V:=ua' w 1 0 e;refine⟨_,_,G,⟨by simp, .inr ⟨w.heap.size,grownCap w 1 0 e,_,rfl,by omega,z19 w.drew _,by simpa using V,xR' w 1 0 e (by unfold maxLen;omega),?_,?_⟩⟩,z27 _ _ _ _,⟨⟨rfl,rfl,rfl,by simp,fun k hk _=>z25 w.drew _ k hk⟩, .inr ⟨⟨rfl,rfl,rfl,by simp,fun k hk _=>z25 w.drew _ k hk⟩,w.heap.size,rfl,by omega⟩⟩⟩
  ·simp[size_zeroCells,ac];omega
  ·simp
 ·by_cases aq:xs.length+1<=cap
  ·obtain⟨w',G,ah,au⟩:=run_append_fits (P:=P) w 0 t ty e i 1 M hi I g xs.length cap xs Q F 1 1 [u] (by simp) O (by intro x J;simp at J;subst J;exact h1) aq;refine⟨_,w',G,by simpa using ah,?_,⟨au, .inl rfl⟩⟩;obtain⟨_,Y⟩:=ah;rcases Y with ⟨Y,_⟩|⟨g',aH,av,z,aI,Z,aJ,ax,ay,az⟩
   ·cases Y
   ·injection z with z _ aA;injection z with z;injection z with z;subst z aA;refine⟨aj, .inr ⟨g,cap,av,rfl,by omega,Z,ap,ax,ay,?_⟩⟩;have:=congrArg (List.take xs.length) az;rw[vL']at this;simpa[Nat.min_eq_left]using this
  ·have holds:∀j x,xs[j]? =some x->w.cell? ((⟨g,0,none⟩:Addr).add j)=some x:=World.ownsRow.cells Q rfl;have G:=run_append_grow (P:=P) w t ty e i H M hi aa ⟨g,0,none⟩ xs.length cap xs (by simp[I]) holds F 1 1 [u] (by simp[I]) O (by omega) (by omega) (by rw[ab];exact growslice_fits (by omega) (by omega));have V:=ua' w (xs.length+1) cap e;refine⟨_,_,G,⟨by simp, .inr ⟨w.heap.size,grownCap w (xs.length+1) cap e,_,by simp,by omega,z19 w.drew _,by simpa using V,xR' w (xs.length+1) cap e ai,?_,?_⟩⟩,?_,⟨⟨rfl,rfl,rfl,by simp,fun k hk _=>z25 w.drew _ k hk⟩, .inr ⟨⟨rfl,rfl,rfl,by simp,fun k hk _=>z25 w.drew _ k hk⟩,w.heap.size,rfl,by omega⟩⟩⟩
   ·simp[size_zeroCells,ac];omega
   ·simp only[Array.toList_append,List.append_assoc];rw[<-z38,zb'];exact List.take_left
   ·have aB:g < w.heap.size:=z14 ao;exact L' Q (fun g' Z=>by cases Z;exact z25 w.drew _ g aB)
theorem bv3 {a b c:Int} (z:0<=a/\a < 256) (hb:0<=b/\b < 256) (F:0<=c/\c < 256):∃l:List UInt8,l.length=3/\bv l=[.int .u8 a, .int .u8 b, .int .u8 c]:=by
 refine⟨[UInt8.ofNat (a.toNat % 256)]++[UInt8.ofNat (b.toNat % 256)]++[UInt8.ofNat (c.toNat % 256)],rfl,?_⟩;rw[cP',cP',eU' z.1 z.2,eU' hb.1 hb.2,eU' F.1 F.2];rfl
theorem vN' (m:Int) (w:World):
  Calls prog 114 #[.int .i64 m] w fun r w'=>∃s:z10,r= .returned (.string s)/\s.size=3/\Below w.heap.size w w':=by
 obtain⟨l,hl,hb⟩:=bv3 (a:=35) (b:=m % 256) (c:=m / 256 % 256) (by omega) (by omega) (by omega);have z:=pt' (w:=w) (l:=l) hl;rw[hb]at z;have F:Hid ((⟨l.toArray⟩:z10).size=3):=by show _= _;simp[ByteArray.size,hl]
 clear hb hl;generalize (⟨l.toArray⟩:z10)=s at z F;go_enter func114,ntmps114;go_wp2;go_ret;exact⟨s,rfl,d' F,(z11 _ _).alloc (z13 _) _⟩
def nh' (m i:Int):Int:=wrap64 (m+wrap64 (i * wrap64 (1+wrap64 (m.tdiv 256)))) % 256
theorem jn' (m i:Int):0<=nh' m i/\nh' m i < 256:=⟨Int.emod_nonneg _ (by decide),Int.emod_lt_of_pos _ (by decide)⟩
theorem pB' (m i:Int) (w:World):
  Calls prog 167 #[.int .i64 m, .int .i64 i] w fun r w'=>r= .returned (.int .u8 (nh' m i))/\w'=w:=by
 go_enter func167,ntmps167;go_wp2;go_ret;exact⟨rfl,rfl⟩
def BAt (A:Nat->Nat->Prop) (w:World) (v:Value) (l:List UInt8):Prop:=
 ∃z cap,v= .slice z l.length cap/\l.length<=cap/\l.length<=9223372036854775807/\
  (0 < l.length->∃b off,z=some ⟨b,off,none⟩/\(∀i,i < l.length->A b (off+i))/\∀i,i < l.length->w.cell? ⟨b,off+i,none⟩=some (.int .u8 (l.getD i 0).toNat))
theorem BAt.keep {A:Nat->Nat->Prop} {w w':World} (h:BAt A w c m) (hk:∀b o,A b o->w'.cell? ⟨b,o,none⟩=w.cell? ⟨b,o,none⟩):BAt A w' c m:=by
 obtain⟨F,cap,G,h1,h2,h3⟩:=h;refine⟨F,cap,G,h1,h2,fun h0=>?_⟩;obtain⟨b,off,e,z,H⟩:=h3 h0;exact⟨b,off,e,z,fun i hi=>(hk b _ (z i hi)).trans (H i hi)⟩
variable{bA:Nat -> Nat -> Prop}
theorem BAt.mono {A:Nat->Nat->Prop} {w:World} {v:Value} (h:BAt A w v m) (z:∀b o,A b o->bA b o):BAt bA w v m:=by
 obtain⟨F,cap,G,h1,h2,h3⟩:=h;refine⟨F,cap,G,h1,h2,fun h0=>?_⟩;obtain⟨b,off,e,hb,H⟩:=h3 h0;exact⟨b,off,e,fun i hi=>z _ _ (hb i hi),H⟩
def Rd (A:Nat->Nat->Prop) (w:World) (v:Value) (xs:List Value):Prop:=
 ∃z cap,v= .slice z xs.length cap/\xs.length<=cap/\cap<=maxLen/\(0 < xs.length->∃g,z=some ⟨g,0,none⟩/\∀i,i < xs.length->A g i/\w.cell? ⟨g,i,none⟩=xs[i]?)
theorem Rd.keep {A:Nat->Nat->Prop} {w w':World} (h:Rd A w c t) (hk:∀b o,A b o->w'.cell? ⟨b,o,none⟩=w.cell? ⟨b,o,none⟩):Rd A w' c t:=by
 obtain⟨F,cap,G,h1,h2,h3⟩:=h;refine⟨F,cap,G,h1,h2,fun h0=>?_⟩;obtain⟨g,e,z⟩:=h3 h0;exact⟨g,e,fun i hi=>⟨(z i hi).1,(hk _ _ (z i hi).1).trans (z i hi).2⟩⟩
theorem Rd.mono {A:Nat->Nat->Prop} {w:World} {v:Value} (h:Rd A w v t) (F:∀b o,A b o->bA b o):Rd bA w v t:=by
 obtain⟨G,cap,H,h1,h2,h3⟩:=h;refine⟨G,cap,H,h1,h2,fun h0=>?_⟩;obtain⟨g,e,z⟩:=h3 h0;exact⟨g,e,fun i hi=>⟨F _ _ (z i hi).1,(z i hi).2⟩⟩
theorem ge' {A:Nat->Nat->Prop} (h:p.ownsRow 0 j 1 c t.length t) (F:∀g,c.ownBlock=some g->∀i,i < t.length->A g i):Rd A p c t:=by
 obtain⟨G,cap,rfl,h1,h2,h3⟩:=(show Row (fun g=>c.ownBlock=some g) p j c t from⟨h,fun g z=>z⟩).shape;refine⟨G,cap,rfl,h1,h2,fun h0=>?_⟩;obtain⟨g,rfl,z,H⟩:=h3 h0;exact⟨g,rfl,fun i hi=>⟨F g z i hi,H i hi⟩⟩
theorem BAt.str {A:Nat->Nat->Prop} (h:BAt A p c m):(convert 44 9 c).run prog p= .ok (.string ⟨m.toArray⟩) p:=by
 obtain⟨z,cap,rfl,h1,h2,h3⟩:=h;by_cases h0:0 < m.length
 ·obtain⟨b,off,rfl,_,F⟩:=h3 h0;exact ec' rfl F
 ·have:m=[]:=z68 (by omega);subst this;cases z with
  |none=>exact run_convert_bytes_nil (P:=prog) p 44 5 underlying44 underlying5 0 cap 9 underlying9
  |some a=>have G:=run_convert_bytes_string (P:=prog) p 44 9 5 (some a) 0 cap underlying44 underlying5 underlying9;have hb:=run_bytesToString (P:=prog) p a 0 cap [] (by simp[loadCells,loadCellsFrom]);exact G.trans hb
def Zt (A:Nat->Nat->Prop) (w:World) (p:Nat):Prop:=
 ∃ (z F fv:Value) (H:Nat) (l:List UInt8) (G:List Value) (m:Int) (t:z10),
  (∀i,i < 6->A p i)/\(∀i,i < 6->w.cell? ⟨p,i,none⟩= #[z,F,fv, .int .i64 m, .string t, .string ⟨l.toArray⟩][i]?)/\Rd A w z (List.replicate H (.string t))/\BAt A w F l/\
   Rd A w fv G/\∀f∈G,BAt A w f t.data.toList
theorem Zt.keep {A:Nat->Nat->Prop} {w w':World} {p:Nat} (h:Zt A w p) (hk:∀b o,A b o->w'.cell? ⟨b,o,none⟩=w.cell? ⟨b,o,none⟩):Zt A w' p:=by
 obtain⟨F,G,fv,H,l,I,m,t,z,J,h1,h2,h3,h4⟩:=h;exact⟨F,G,fv,H,l,I,m,t,z,fun i hi=>(hk p i (z i hi)).trans (J i hi),h1.keep hk,h2.keep hk,h3.keep hk,fun f M=>(h4 f M).keep hk⟩
theorem Zt.mono {A:Nat->Nat->Prop} {w:World} {p:Nat} (h:Zt A w p) (z:∀b o,A b o->bA b o):Zt bA w p:=by
 obtain⟨F,G,fv,H,l,I,m,t,J,M,h1,h2,h3,h4⟩:=h;exact⟨F,G,fv,H,l,I,m,t,fun i hi=>z _ _ (J i hi),M,h1.mono z,h2.mono z,h3.mono z,fun f O=>(h4 f O).mono z⟩
theorem y' {w:World} {p i:Nat} {c:Array Value} {e:TypeId} {fr:Nat×Nat} (h:w.heap[p]? =some (.cells c e fr)):w.cell? ⟨p,i,none⟩=c[i]? :=by simp[World.cell?,h]
variable{l:Array Value}{aN:Nat×Nat}
theorem cW' (h:p.heap[w]? =some (.cells l j aN)):p.cell? ⟨w,0,none⟩=l[0]? /\p.cell? ⟨w,1,none⟩=l[1]? :=⟨y' h,y' h⟩
theorem eE' {v:Value} (h:p.heap[w]? =some (.cells ⟨c::v::t⟩ j aN)):p.cell? ⟨w,0,none⟩=some c/\p.cell? ⟨w,1,none⟩=some v:=cW' h
theorem cC' {w:World} {p:Nat} {c:Array Value} {e:TypeId} {fr:Nat×Nat} (h:w.heap[p]? =some (.cells c e fr)):w.cell? ⟨p,0,none⟩=c[0]? /\w.cell? ⟨p,1,none⟩=c[1]? /\w.cell? ⟨p,2,none⟩=c[2]? :=⟨y' h,y' h,y' h⟩
variable{G:Value}
theorem gF' (h:p.heap[w]? =some (.cells ⟨c::f::G::t⟩ j aN)):p.cell? ⟨w,0,none⟩=some c/\p.cell? ⟨w,1,none⟩=some f/\p.cell? ⟨w,2,none⟩=some G:=cC' h
theorem ni' (h:p.heap[w]? =some (.cells l j aN)):p.cell? ⟨w,0,none⟩=l[0]? /\p.cell? ⟨w,1,none⟩=l[1]? /\p.cell? ⟨w,2,none⟩=l[2]? /\p.cell? ⟨w,3,none⟩=l[3]? :=⟨y' h,y' h,y' h,y' h⟩
variable{W:Value}
theorem zp' (h:p.heap[w]? =some (.cells ⟨c::f::G::W::t⟩ j aN)):p.cell? ⟨w,0,none⟩=some c/\p.cell? ⟨w,1,none⟩=some f/\p.cell? ⟨w,2,none⟩=some G/\p.cell? ⟨w,3,none⟩=some W:=ni' h
theorem dK' (h:p.heap[w]? =some (.cells l j aN)):p.cell? ⟨w,0,none⟩=l[0]? /\p.cell? ⟨w,1,none⟩=l[1]? /\p.cell? ⟨w,2,none⟩=l[2]? /\p.cell? ⟨w,3,none⟩=l[3]? /\p.cell? ⟨w,4,none⟩=l[4]? :=⟨y' h,y' h,y' h,y' h,y' h⟩
variable{Y:Value}
theorem dn' (h:p.heap[w]? =some (.cells ⟨c::f::G::W::Y::t⟩ j aN)):p.cell? ⟨w,0,none⟩=some c/\p.cell? ⟨w,1,none⟩=some f/\p.cell? ⟨w,2,none⟩=some G/\p.cell? ⟨w,3,none⟩=some W/\p.cell? ⟨w,4,none⟩=some Y:=dK' h
theorem Ai' (h:p.heap[w]? =some (.cells l j aN)):p.cell? ⟨w,0,none⟩=l[0]? /\p.cell? ⟨w,1,none⟩=l[1]? /\p.cell? ⟨w,2,none⟩=l[2]? /\p.cell? ⟨w,3,none⟩=l[3]? /\p.cell? ⟨w,4,none⟩=l[4]? /\p.cell? ⟨w,5,none⟩=l[5]? :=⟨y' h,y' h,y' h,y' h,y' h,y' h⟩
theorem H' {w:World} {p i:Nat} (h:w.heap[p]? =some (.cells l j (0,0))):w.frozen? ⟨p,i,none⟩=false:=by simp[World.frozen?,h]
theorem sg' (A:Nat->Nat->Prop) (p:Nat) (w:World) (h:Zt A w p):
  Calls prog 83 #[.pointer (some ⟨p,0,none⟩)] w fun r w'=>r= .returned (.bool true)/\∃n,w'=w.drewN n:=by
 obtain⟨aj,ak,fv,H,l,z,m,t,V,F,h1,h2,h3,h4⟩:=h;have c0:=F 0 (by omega);have c1:=F 1 (by omega);have c2:=F 2 (by omega);have c4:=F 4 (by omega);have c5:=F 5 (by omega);simp at c0 c1 c2 c4 c5;obtain⟨ao,ap,rfl,Y,Z,M⟩:=h1;obtain⟨aq,au,rfl,av,aa,O⟩:=h3;have ab:=m' M;have ac:=m' O;have ad:=m' h4;have hs:=fun n=>(h2.keep (w':=w.drewN n) (fun _ _ _=>rfl)).str;rw[z55]at c0 Y;have n1:H<=9223372036854775807:=by unfold maxLen at Z;omega
 have n2:z.length<=9223372036854775807:=by unfold maxLen at aa;omega
 clear M O h4 F h2 V;go_enter func83,ntmps83;go_wp2;go_loopw[3] (fun i wr=>∃k:Nat,k<=H/\i= .int .i64 k/\∃n,wr=w.drewN n) (fun i _=>H - (intOf i).toNat)
 case atStart=>exact⟨0,z54 _,rfl,0,rfl⟩
 case round=>
  obtain⟨k,hk,rfl,n,rfl⟩:=hrel;by_cases Q:k < H
  ·obtain⟨g,rfl,G⟩:=(d' ab) (by rw[z55];omega);have I:=(G k (by rw[z55];exact Q)).2;rw[Ah',if_pos Q]at I;clear G;go_wp2;go_quiet (fail);go_wp2;go_roundw
   case rel=>exact⟨k+1,by omega,by go_num,n+nq,by simp⟩
   case measure=>simp[intOf];omega
  ·go_wp2;go_quiet (fail);go_wp2;go_loopw[4] (fun i wr=>∃k:Nat,k<=z.length/\i= .int .i64 k/\∃n,wr=w.drewN n) (fun i _=>z.length - (intOf i).toNat)
   case atStart=>exact⟨0,z54 _,rfl,n+nq,by simp⟩
   case round=>
    obtain⟨k2,ax,rfl,ah,rfl⟩:=hrel;by_cases J:k2 < z.length
    ·obtain⟨g,rfl,G⟩:=(d' ac) (by omega);have I:=(G k2 J).2;have hst:=fun n=>((d' ad) z[k2] (z81 J)).keep (w':=w.drewN n) (fun _ _ _=>rfl);have ai:=fun n=>(hst n).str;rw[z18 J]at I;clear G hst;generalize z[k2]=ay at I ai;go_wp2;go_quiet (fail);go_wp2;go_roundw
     case rel=>exact⟨k2+1,by omega,by go_num,ah+nq,by simp⟩
     case measure=>simp[intOf];omega
    ·go_wp2;go_ret;exact⟨rfl,_,rfl⟩
def D' (p:Nat):Value:= .pointer (some ⟨p,0,none⟩)
structure Qj (A:Nat->Nat->Prop) (w:World) (wb:Nat) (as_ ss:Value) (hv:Value) (hs:List Nat):Prop where
 blk:w.heap[wb]? =some (.cells #[as_,ss,hv] 83 (0,0))
 row:w.ownsRow 0 108 1 hv hs.length (hs.map D')
 all:∀p∈hs,Zt A w p
theorem uo' (A:Nat->Nat->Prop) (w:World) (G:Nat) (Y Z H:Value) (hs:List Nat) (h:Qj A w G Y Z H hs):
  Calls prog 49 #[.pointer (some ⟨G,0,none⟩)] w fun r w'=>r= .returned (.bool true)/\∃n,w'=w.drewN n:=by
 obtain⟨I,J,M⟩:=h;have c2:=y' (i:=2) I;simp at c2;have O:Row (fun _=>True) w 108 H (hs.map D'):=⟨by rw[z43];exact J,fun _ _=>trivial⟩;obtain⟨ad,ah,rfl,h1,h2,h3⟩:=O.shape;rw[z43]at c2 h1 h3;have aa:=m' h3;have ab:=m' M;have n1:hs.length<=9223372036854775807:=by unfold maxLen at h2;omega
 clear h3 M J O I;go_enter func49,ntmps49;go_wp2;go_loopw[3,4] (fun i _ wr=>∃k:Nat,k<=hs.length/\i= .int .i64 k/\∃n,wr=w.drewN n) (fun i _ _=>hs.length - (intOf i).toNat)
 case atStart=>exact⟨0,z54 _,rfl,0,rfl⟩
 case round=>
  obtain⟨k,hk,rfl,n,rfl⟩:=hrel;by_cases z:k < hs.length
  ·obtain⟨g,rfl,_,Q⟩:=(d' aa) (by omega);have F:=Q k z;rw[z70,z18 z]at F;simp only[Option.map_some,D']at F;have V:=fun n=>m' (sg' A hs[k] (w.drewN n) (((d' ab) hs[k] (z81 z)).keep (fun _ _ _=>rfl)));clear Q;generalize hs[k]=ai at F V;go_wp2_with (go_at_call 83;refine(d' (V _)).mono ?_;rintro r w' ⟨rfl,ac,rfl⟩);go_roundw
   case rel=>exact⟨k+1,by omega,by go_num,n+ac,by simp⟩
   case measure=>simp[intOf];omega
  ·go_wp2;go_ret;exact⟨rfl,_,rfl⟩
theorem Aj':(prog.info? 9).map (fun i=>(i.zero,i.size,i.bytes))=some (some (.string ⟨#[]⟩),1,16):=by kernel_rfl
theorem zq':(prog.info? 44).map (fun i=>(i.zero,i.size,i.bytes))=some (some (.slice none 0 0),1,24):=by kernel_rfl
theorem vO':(prog.info? 108).map (fun i=>(i.zero,i.size,i.bytes))=some (some (.pointer none),1,8):=by kernel_rfl
variable{N:Oper}{I:Act}{Z:Exit -> Act -> World -> Prop}
theorem tE' {K:Act->World->Prop} (s x:Operand) (t:TypeId) (G:N.op= .call {callee:= .builtin .append,args:= #[s,x],argTypes:= #[t,t]})
  (e:TypeId) (z:Value) (bytes:Nat) (H:prog.underlying t=some (.slice e)) (J:(prog.info? e).map (fun i=>(i.zero,i.size,i.bytes))=some (some z,1,bytes)) (M:z.cells.size=1)
  (v:Value) (xs:List Value) (O:p.ownsRow 0 e 1 v xs.length xs) (hs:I.eval s=v) (F:Addr) (u:Value) (Q:I.eval x= .slice (some F) 1 1) (hu:p.cell? F=some u) (h1:u.oneCell'=true)
  (hb:(xs.length+1) * bytes<=140737488355328) (hl:xs.length+1<=140737488355328)
  (h:∀v' w',w'.ownsRow 0 e 1 v' (xs++[u]).length (xs++[u])->w'.ownsRow 0 e 1 v xs.length xs->App p w' v v'->K (I.put N.dst v') w'):N.wp prog I p K Z:=by
 obtain⟨i0,hi,V,Y,aa⟩:=nT' J;obtain⟨v',w',ab,h2,h3,h4⟩:=pA' (P:=prog) p t N.type e i0 z bytes H hi V Y aa M v xs O F u hu h1 hb hl;unfold Oper.wp execOp;simp only[G,resolve,invoke,builtin,Sem.run_bind,Sem.run_pure,Result.andThen_ok,List.map_toArray,List.map_cons,List.map_nil,hs,Q,ab];exact h v' w' h2 h3 h4
variable{B:Array Oper}
theorem bV' {rest:List Oper} (G:N.guard=none) (s x:Operand) (t:TypeId) (H:N.op= .call {callee:= .builtin .append,args:= #[s,x],argTypes:= #[t,t]})
  (e:TypeId) (z:Value) (bytes:Nat) (J:prog.underlying t=some (.slice e)) (M:(prog.info? e).map (fun i=>(i.zero,i.size,i.bytes))=some (some z,1,bytes)) (O:z.cells.size=1)
  (v:Value) (xs:List Value) (Q:p.ownsRow 0 e 1 v xs.length xs) (hs:I.eval s=v) (F:Addr) (u:Value) (V:I.eval x= .slice (some F) 1 1) (hu:p.cell? F=some u) (h1:u.oneCell'=true)
  (hb:(xs.length+1) * bytes<=140737488355328) (hl:xs.length+1<=140737488355328)
  (h:∀v' w',w'.ownsRow 0 e 1 v' (xs++[u]).length (xs++[u])->w'.ownsRow 0 e 1 v xs.length xs->App p w' v v'->wpList prog B Z rest (I.put N.dst v') w'):wpList prog B Z (N::rest) I p:=
 pi' G fun _ hK=>tE' s x t H e z bytes J M O v xs Q hs F u V hu h1 hb hl fun v' w' h2 h3 h4=>hK _ _ (h v' w' h2 h3 h4)
variable{bX:Prop}
theorem up' {K:Act->World->Prop} (G:N.guard=none) (s x:Operand) (t:TypeId) (H:N.op= .call {callee:= .builtin .append,args:= #[s,x],argTypes:= #[t,t]})
  (e:TypeId) (z:Value) (bytes:Nat) (J:prog.underlying t=some (.slice e)) (M:(prog.info? e).map (fun i=>(i.zero,i.size,i.bytes))=some (some z,1,bytes)) (O:z.cells.size=1)
  (v:Value) (xs:List Value) (Q:p.ownsRow 0 e 1 v xs.length xs) (hs:I.eval s=v) (F:Addr) (u:Value) (V:I.eval x= .slice (some F) 1 1) (hu:p.cell? F=some u) (h1:u.oneCell'=true)
  (hb:(xs.length+1) * bytes<=140737488355328) (hl:xs.length+1<=140737488355328)
  (h:∀v' w',w'.ownsRow 0 e 1 v' (xs++[u]).length (xs++[u])->w'.ownsRow 0 e 1 v xs.length xs->App p w' v v'->K (I.put N.dst v') w'):if Region.wanted N (yielded B I.tmps)=true then N.wp prog I p K Z else bX:=by
 rw[if_pos (by simp[Region.wanted,G])];exact tE' s x t H e z bytes J M O v xs Q hs F u V hu h1 hb hl h
variable{bG:TypeId}
theorem av' (h:p.ownsRow 0 j 1 c w t) (hb:p.heap[a]? =some (.cells l bG aN)) (F:j≠bG):c.ownBlock≠some a:=by
 intro z;obtain⟨_,h2⟩:=h;rcases h2 with ⟨rfl,_⟩|⟨g,cap,H,rfl,_,G,_⟩
 ·cases z
 ·cases z;rw[G]at hb;injection hb with hb;injection hb with _ hb _;exact F hb
theorem aJ' (h:p.ownsRow 0 j 1 c w t) (hn:0 < w):∃g cap,c= .slice (some ⟨g,0,none⟩) w cap:=by
 obtain⟨_,h2⟩:=h;rcases h2 with ⟨_,h2⟩|⟨g,cap,z,j,_⟩
 ·omega
 ·exact⟨g,cap,j⟩
variable{O:World}{aQ:Obj}
theorem cv' (h:App u O c f) (z:∀w,w < p.heap.size->u.heap[w]? =p.heap[w]?) (hs:p.heap.size<=u.heap.size) (hk:p.heap[w]? =some aQ) (F:c.ownBlock≠some w):O.heap[w]? =some aQ:=by
 have G:=z14 hk;rw[h.grown.block w (by omega) (fun e=>F e.symm),z w G];exact hk
variable{aR:List Value}
theorem dx' (h:App u O c f) (I:∀k,k < p.heap.size->u.heap[k]? =p.heap[k]?) (hs:p.heap.size<=u.heap.size)
  (J:p.ownsRow 0 j 1 c w t) (z:p.ownsRow 0 bG 1 G a aR) (M:j≠bG):O.ownsRow 0 bG 1 G a aR:=by
 refine L' z (fun g F=>?_);have Y:=(z15 z g F).2;obtain⟨_,h2⟩:=id z;rcases h2 with ⟨rfl,_⟩|⟨g',cap,Z,rfl,_,H,_⟩
 ·cases F
 ·cases F;have Q:g' < p.heap.size:=z14 H;rw[h.grown.block g' (by omega) (fun V=>av' J H M V.symm),I g' Q]
theorem aa' {w:World} {q j:Nat} {c:Array Value} {e:TypeId} {fr:Nat×Nat} {v:Value} (h:w.heap[q]? =some (.cells c e fr)):(w.setCell ⟨q,j,none⟩ v).heap[q]? =some (.cells (c.setIfInBounds j v) e fr):=by
 simp[World.setCell,Array.getElem?_modify,h]
theorem P' {j:Nat} {v:Value} (h:a≠w):(p.setCell ⟨w,j,none⟩ v).heap[a]? =p.heap[a]? :=Below.heap_setCell p ⟨w,j,none⟩ v a h
theorem cw' {w:World} {q j:Nat} {c:Array Value} {e z:TypeId} {fr:Nat×Nat} {u v:Value} {n:Nat} {xs:List Value} (h:w.ownsRow 0 e 1 v n xs) (F:w.heap[q]? =some (.cells c z fr)) (G:e≠z):
  (w.setCell ⟨q,j,none⟩ u).ownsRow 0 e 1 v n xs:=L' h (fun g H=>P' (fun I=>av' h F G (by rw[H,I])))
def Loc (w:World) (v z:Value):Prop:=z.ownBlock=none\/z.ownBlock=v.ownBlock\/∃g,z.ownBlock=some g/\w.heap.size<=g
structure Mid (w X:World) (p q:Nat) (cp cq:Array Value) (tv:Value) (ts:List Value) (bv':Value) (l:List UInt8) (fv:Value) (fs:List Value) (tv2:Value) (ts2:List Value) (bv2:Value) (l2:List UInt8) (fv2:Value) (fs2:List Value):Prop where
 qnew:w.heap.size<=q
 pb:X.heap[p]? =some (.cells cp 110 (0,0))
 qb:X.heap[q]? =some (.cells cq 110 (0,0))
 t:X.ownsRow 0 9 1 tv ts.length ts
 b:X.ownsRow 0 5 1 bv' (bv l).length (bv l)
 f:X.ownsRow 0 44 1 fv fs.length fs
 t2:X.ownsRow 0 9 1 tv2 ts2.length ts2
 b2:X.ownsRow 0 5 1 bv2 (bv l2).length (bv l2)
 f2:X.ownsRow 0 44 1 fv2 fs2.length fs2
 lt:Loc w tv tv2
 lb:Loc w bv' bv2
 lf:Loc w fv fv2
 os:X.os=w.os
 tape:X.tape=w.tape
 output:X.output=w.output
 size:w.heap.size<=X.heap.size
 rest:∀k,k < w.heap.size->tv.ownBlock≠some k->bv'.ownBlock≠some k->fv.ownBlock≠some k->X.heap[k]? =w.heap[k]?
theorem Mid.below {w X F:World} {p q:Nat} {G H:Array Value} {I J fv M O Q:Value} {V Y ts2 Z:List Value} {l aa:List UInt8} (z:Mid w X p q G H I V J l fv Y M ts2 O aa Q Z) (h:Below X.heap.size X F):
  Mid w F p q G H I V J l fv Y M ts2 O aa Q Z:=by
 have hk:∀ {e:TypeId} {v:Value} {n:Nat} {xs:List Value},X.ownsRow 0 e 1 v n xs->F.ownsRow 0 e 1 v n xs:=fun r=>L' r (fun g ac=>h.block g (z15 r g ac).2);exact⟨z.qnew,(h.block p (z14 z.pb)).trans z.pb,(h.block q (z14 z.qb)).trans z.qb,hk z.t,hk z.b,hk z.f,hk z.t2,hk z.b2,hk z.f2,z.lt,z.lb,z.lf,h.os.trans z.os,h.tape.trans z.tape,h.output.trans z.output,
  z26 z.size h.size,fun k ab h1 h2 h3=>(h.block k (z20 ab z.size)).trans (z.rest k ab h1 h2 h3)⟩
variable{aY:Array Value}{aK:Value}{bI cJ:List Value}{aU:List UInt8}
theorem Mid.set {j:Nat} (z:Mid p u w a l aY c t f m G aR W bI Y aU aK cJ) (F:w≠a) (v:Value):
  Mid p (u.setCell ⟨a,j,none⟩ v) w a l (aY.setIfInBounds j v) c t f m G aR W bI Y aU aK cJ:=
 ⟨z.qnew,(P' F).trans z.pb,aa' z.qb,cw' z.t z.qb (by decide),cw' z.b z.qb (by decide),cw' z.f z.qb (by decide),cw' z.t2 z.qb (by decide),cw' z.b2 z.qb (by decide),cw' z.f2 z.qb (by decide),z.lt,z.lb,z.lf,z.os,z.tape,z.output,
  by rw[z79];exact z.size,fun k H h1 h2 h3=>(P' (by have:=z.qnew;omega)).trans (z.rest k H h1 h2 h3)⟩
theorem dy' {w:World} (hs:w.heap.size<=p.heap.size) (z:App p u c f):Loc w c f:=by
 rcases z.where_ with h|⟨_,g,h,F⟩
 ·exact .inr (.inl h)
 ·exact .inr (.inr ⟨g,h,z26 hs F⟩)
theorem vP' (h:Below w p u) (z:w<=u.heap.size):Below w p (u.alloc aQ).drew:=
 h.trans ⟨rfl,rfl,rfl,by simp,fun k hk=>z25 u aQ k (z20 hk z)⟩
theorem tF' (w:World) (v:Value):Loc w v (.slice none 0 0):= .inl rfl
theorem vQ' (z:Below p.heap.size p u) (F:App u O c W) (I:p.heap.size<=a)
  (J:O.heap[w]? =some (.cells l 110 (0,0))) (M:O.heap[a]? =some (.cells aY 110 (0,0))) (H:p.ownsRow 0 9 1 c t.length t) (hb:p.ownsRow 0 5 1 f (bv m).length (bv m)) (Q:p.ownsRow 0 44 1 G aR.length aR)
  (V:O.ownsRow 0 9 1 W bI.length bI) (Y:O.ownsRow 0 9 1 c t.length t):Mid p O w a l aY c t f m G aR W bI (.slice none 0 0) [] (.slice none 0 0) []:=
 ⟨I,J,M,Y,dx' F (fun k hk=>z.block k hk) z.size H hb (by decide),dx' F (fun k hk=>z.block k hk) z.size H Q (by decide),V,z27 _ _ _ _,z27 _ _ _ _,dy' z.size F,tF' _ _,tF' _ _,
  F.grown.os.trans z.os,F.grown.tape.trans z.tape,F.grown.output.trans z.output,z26 z.size F.grown.size,
  fun k hk h1 _ _=>(F.grown.block k (z20 hk z.size) (fun e=>h1 e.symm)).trans (z.block k hk)⟩
theorem Mid.bytes {w X W:World} {p q:Nat} {I J:Array Value} {M G fv O aa Q v1:Value} {V Y ts2 Z:List Value} {l ab H:List UInt8} (z:Mid w X p q I J M V G l fv Y O ts2 aa ab Q Z) (F:App X W G v1)
  (ac:W.ownsRow 0 5 1 v1 (bv H).length (bv H)) (ad:W.ownsRow 0 5 1 G (bv l).length (bv l)):Mid w W p q I J M V G l fv Y O ts2 v1 H Q Z:=
 ⟨z.qnew,cv' F (fun _ _=>rfl) (z13 _) z.pb (av' z.b z.pb (by decide)),cv' F (fun _ _=>rfl) (z13 _) z.qb (av' z.b z.qb (by decide)),
  dx' F (fun _ _=>rfl) (z13 _) z.b z.t (by decide),ad,dx' F (fun _ _=>rfl) (z13 _) z.b z.f (by decide),dx' F (fun _ _=>rfl) (z13 _) z.b z.t2 (by decide),ac,dx' F (fun _ _=>rfl) (z13 _) z.b z.f2 (by decide),
  z.lt,dy' z.size F,z.lf,F.grown.os.trans z.os,F.grown.tape.trans z.tape,F.grown.output.trans z.output,z26 z.size F.grown.size,
  fun k hk h1 h2 h3=>(F.grown.block k (z20 hk z.size) (fun e=>h2 e.symm)).trans (z.rest k hk h1 h2 h3)⟩
variable{aO:Value}{dQ:List Value}
theorem Mid.Yc (z:Mid p u w a l aY c t f m G aR W bI Y aU aK cJ) (F:App u O G aO)
  (H:O.ownsRow 0 44 1 aO dQ.length dQ) (I:O.ownsRow 0 44 1 G aR.length aR):Mid p O w a l aY c t f m G aR W bI Y aU aO dQ:=
 ⟨z.qnew,cv' F (fun _ _=>rfl) (z13 _) z.pb (av' z.f z.pb (by decide)),cv' F (fun _ _=>rfl) (z13 _) z.qb (av' z.f z.qb (by decide)),
  dx' F (fun _ _=>rfl) (z13 _) z.f z.t (by decide),dx' F (fun _ _=>rfl) (z13 _) z.f z.b (by decide),I,dx' F (fun _ _=>rfl) (z13 _) z.f z.t2 (by decide),dx' F (fun _ _=>rfl) (z13 _) z.f z.b2 (by decide),H,
  z.lt,z.lb,dy' z.size F,F.grown.os.trans z.os,F.grown.tape.trans z.tape,F.grown.output.trans z.output,z26 z.size F.grown.size,
  fun k hk h1 h2 h3=>(F.grown.block k (z20 hk z.size) (fun e=>h3 e.symm)).trans (z.rest k hk h1 h2 h3)⟩
def Jg (B:Nat) (w:World) (v:Value) (l:List UInt8):Prop:=
 ∃g cap C fr,v= .slice (some ⟨g,0,none⟩) l.length cap/\B<=g/\l.length<=cap/\l.length<=9223372036854775807/\w.heap[g]? =some (.cells C 5 fr)/\∀i,i < l.length->C[i]? =some (.int .u8 (l.getD i 0).toNat)
theorem Jg.keep {B:Nat} {w w':World} {v:Value} {l:List UInt8} (h:Jg B w v l) (hk:∀g z,w.heap[g]? =some z->B<=g->(∃C fr,z= .cells C 5 fr)->w'.heap[g]? =some z):Jg B w' v l:=by
 obtain⟨g,cap,C,fr,e,h1,h2,h3,h4,h5⟩:=h;exact⟨g,cap,C,fr,e,h1,h2,h3,hk g _ h4 h1 ⟨C,fr,rfl⟩,h5⟩
theorem Jg.mono {B B':Nat} {w:World} {v:Value} (h:Jg B w v m) (z:B'<=B):Jg B' w v m:=by
 obtain⟨g,cap,C,fr,e,h1,h2⟩:=h;exact⟨g,cap,C,fr,e,z26 z h1,h2⟩
theorem Jg.set {j:Nat} (h:Jg w p c m) (z:p.heap[a]? =some (.cells l 110 (0,0))):Jg w (p.setCell ⟨a,j,none⟩ f) c m:=by
 refine h.keep (fun g I F _ G=>?_);obtain⟨C,fr,rfl⟩:=G;have H:g≠a:=by rintro rfl;rw[F]at z;injection z with z;injection z with _ z _;exact absurd z (by decide)
 exact(P' H).trans F
theorem Jg.app (h:Jg w p c m) (F:App u O f G) (H:∀k,k < p.heap.size->u.heap[k]? =p.heap[k]?) (hs:p.heap.size<=u.heap.size) (I:p.ownsRow 0 44 1 f a t):Jg w O c m:=by
 refine h.keep (fun g M z _ J=>?_);obtain⟨C,fr,rfl⟩:=J;exact cv' F H hs z (av' I z (by decide))
theorem fz' (w:World) (s:z10) (hs:s.size<=140737488355328):
  ∃g cap w',(convert 9 44 (.string s)).run prog w= .ok (.slice (some ⟨g,0,none⟩) s.size cap) w'/\Jg w.heap.size w' (.slice (some ⟨g,0,none⟩) s.size cap) s.data.toList/\Below w.heap.size w w':=by
 refine⟨_,_,_,run_bytes_of_string w 9 44 5 s underlying9 underlying44 underlying5,?_,?_⟩
 ·have hl:s.data.toList.length=s.size:=by simp
  refine⟨w.heap.size,_,bytesRow s (grownCap w s.size 0 5),((bytesRow s (grownCap w s.size 0 5)).size,(bytesRow s (grownCap w s.size 0 5)).size+1),by rw[hl],z13 _,by rw[hl];exact ua' w s.size 0 5,by omega,?_,fun i hi=>?_⟩
  ·show(w.heap.push _)[w.heap.size]? = _;simp
  rw[hl]at hi;have z:i < s.data.size:=hi;unfold bytesRow;rw[Array.getElem?_append_left (by simpa using z)];have F:s.data[i]? =some s.data[i]:=z75 z;simp[F]
 ·exact((z11 _ _).drew).alloc (z13 _) _
theorem zr' (l:List UInt8) (x:Int):(⟨l.toArray⟩:z10)++s1 x=⟨(l++[UInt8.ofNat (x.toNat % 256)]).toArray⟩:=by
 apply tY';simp[s1]
def ob' (m:Int) (t:z10) (B:Nat) (v:Value) (w:World):Prop:=∃q,v= .pointer (some ⟨q,0,none⟩)/\B<=q/\w.heap[q]? =some (.cells #[.slice none 0 0, .slice none 0 0, .slice none 0 0, .int .i64 m, .string t, .string ⟨#[]⟩] 110 (0,0))
theorem kx' (m:Int) (t:z10) (B:Nat):bm' (ob' m t B):=by
 rintro v w w' ⟨q,rfl,z,h⟩ hb;exact⟨q,rfl,z,by rw[hb.block q (z14 h)];exact h⟩
theorem si' (p:Nat) (w:World) (F Q fv:Value) (z:Nat) (l:List UInt8) (G:List Value) (m:Int) (t:z10)
  (ao:w.heap[p]? =some (.cells #[F,Q,fv, .int .i64 m, .string t, .string ⟨l.toArray⟩] 110 (0,0)))
  (ba:w.ownsRow 0 9 1 F z (List.replicate z (.string t))) (bb:w.ownsRow 0 5 1 Q l.length (bv l)) (I:w.ownsRow 0 44 1 fv G.length G)
  (ck:z<=1000) (cl:l.length<=140737488354000) (z3:G.length<=1000) (z4:t.size<=3):
  Calls prog 116 #[.pointer (some ⟨p,0,none⟩)] w fun r w'=>∃ (q:Nat) (bc aF bd v6:Value) (b:UInt8),r= .returned (D' q)/\
   Mid w w' p q #[F,Q,fv, .int .i64 m, .string t, .string ⟨l.toArray⟩] #[bc,aF,bd, .int .i64 m, .string t, .string ⟨(l++[b]).toArray⟩] F (List.replicate z (.string t)) Q l fv G bc (List.replicate z (.string t)++[.string t]) aF (l++[b]) bd (G++[v6])/\
   ∃B,w.heap.size<=B/\(∀g,aF.ownBlock=some g->g < B)/\Jg B w' v6 t.data.toList:=by
 obtain⟨c0,c1,c2,c3,c4,c5⟩:=Ai' ao;simp at c0 c1 c2 c3 c4 c5;have aa:=z14 ao;have be:=m' ao;have aG:=m' ba;have aH:=m' bb;have aI:=m' I;clear ao ba bb I;go_enter func116,ntmps116;go_upto_region 1 with fail;refine ae'
  [Ev (D' p),Ev (D' p),Ep p 3,Ei m,Ev (D' p),Ev (D' p),Ep p 4,Ev (.string t),
   Ev (.agg #[.slice none 0 0, .slice none 0 0, .slice none 0 0, .int .i64 m, .string t, .string ⟨#[]⟩]),ob' m t w.heap.size,ob' m t w.heap.size]
  [[0],[1006],[2007],[3008],[0],[5010],[6011],[7012],[4009,8013],[9014],[10015]] [7,8,9,10,11,12,13,14,15,16,4] [3,1,2,10,999] ?_ ?_ (hst:=by repeat' (first|exact V' _|exact kx' _ _ _|exact trivial|apply z12))
 ·refine⟨?_,?_,?_,?_,?_,?_,?_,?_,?_,?_,?_,trivial⟩;all_goals
   intro a x hb I;have bQ:=hb.size;have cm:x.cell? ⟨p,3,none⟩=some (.int .i64 m):=(hb.cell (p:=⟨p,3,none⟩) aa).trans c3;have bf:x.cell? ⟨p,4,none⟩=some (.string t):=(hb.cell (p:=⟨p,4,none⟩) aa).trans c4;clear hb;simp[I',D']at I;try go_simp
   try exact z11 _ _
  all_goals first
   |exact⟨rfl,z11 _ _⟩
   |exact⟨_,rfl,z11 _ _,I⟩
   |exact⟨_,rfl,(z11 _ _).alloc (z13 _) _,_,rfl,bQ,by show(x.heap.push _)[x.heap.size]? = _;simp⟩
 ·intro f x hb ab;simp only[ag']at ab;obtain⟨_,_,_,_,_,_,_,_,_,_,⟨q,bR,bS,ap⟩,_⟩:=ab;have aJ:=m' ((hb.block p aa).trans (d' be));have aq:∀ (v:Value) (e:TypeId) (n:Nat) (xs:List Value),w.ownsRow 0 e 1 v n xs->x.ownsRow 0 e 1 v n xs:=fun v e n xs h=>L' h (fun g aK=>hb.block g (z15 h g aK).2);have au:Hid (x.ownsRow 0 9 1 F (List.replicate z (Value.string t)).length (List.replicate z (Value.string t))):=by have:=aq _ _ _ _ (d' aG);rw[z55];exact this
  have bT:=m' (aq _ _ _ _ (d' aH));have bU:=m' (aq _ _ _ _ (d' aI));have aL:=m' hb;have bV:=(hb.cell (p:=⟨p,0,none⟩) aa).trans c0;have bf:=(hb.cell (p:=⟨p,4,none⟩) aa).trans c4;have bg:¬q=p:=by omega
  have bh:=y' (i:=0) ap;have bW:=H' (i:=0) ap;simp at bh;have aM:=m' ap;clear hb aq c0 c1 c2 c3 c4 c5 ap;simp only[O',bR];go_upto_region 2 with fail;go_region_held3 (fun w'=>w'.cell? ⟨p,0,none⟩=some F/\w'.cell? ⟨p,4,none⟩=some (.string t))
   (go_keep)
   ((refine up' rfl (.tmp 20) (.tmp 25) 45 rfl 9 (.string ⟨#[]⟩) 16 underlying45 Aj' rfl F (List.replicate z (.string t)) (z53 (d' au) _) rfl ⟨x.heap.size,0,none⟩ (.string t) rfl (by simp) rfl (by rw[z55];omega) (by rw[z55];omega) ?_;intro v1 w1 aN bi av;obtain⟨g1,J,bj⟩:=aJ' aN (by simp);rw[show(List.replicate z (Value.string t)++[Value.string t]).length=z+1 by simp]at bj;subst bj;have ax:=cv' av (fun k hk=>z25 _ _ _ hk) (by simp) (d' aJ) (av' (d' au) (d' aJ) (by decide));have ay:=cv' av (fun k hk=>z25 _ _ _ hk) (by simp) (d' aM) (av' (d' au) (d' aM) (by decide));have bk:=y' (i:=0) ax;have bl:=y' (i:=4) ax;have bm:=y' (i:=0) ay;have bX:=H' (i:=0) ay;simp at bk bl bm;have bn:=m' ax;have bo:=m' ay;have bp:=m' aN;have bq:=m' bi;have br:=m' av;clear ax ay aN bi av))
  go_upto_region 3 with fail
  refine G' (fun X=>Mid w X p q #[F,Q,fv, .int .i64 m, .string t, .string ⟨l.toArray⟩] #[.slice (some ⟨g1,0,none⟩) (z+1) J, .slice none 0 0, .slice none 0 0, .int .i64 m, .string t, .string ⟨#[]⟩]
   F (List.replicate z (.string t)) Q l fv G (.slice (some ⟨g1,0,none⟩) (z+1) J) (List.replicate z (.string t)++[.string t]) (.slice none 0 0) [] (.slice none 0 0) []) ?_ ?_
  ·exact(vQ' (vP' (d' aL) (d' aL).size) (d' br) bS (d' bn) (d' bo) (by rw[z55];exact d' aG) (by rw[Z'];exact d' aH) (d' aI) (d' bp) (d' bq)).set (j:=0) (fun e=>bg e.symm) _
  ·intro X V;have aO:p≠q:=fun e=>bg e.symm;clear br bp bq bn bo au bT bU aJ aM aL bV bf bk bl bm bX bh bW be aG aH aI;generalize ac:(#[.slice (some ⟨g1,0,none⟩) (z+1) J, .slice none 0 0, .slice none 0 0, .int .i64 m, .string t, .string ⟨#[]⟩]:Array Value)=ad at V;have bt:ad.size=6:=by rw[<-ac];rfl
   have d1:=y' (i:=1) V.pb;have d3:=y' (i:=3) V.pb;simp at d1 d3;obtain⟨M,O,bu,_,cn,_⟩:=Row.shape (A:=fun _=>True) ⟨V.b,fun _ _=>trivial⟩;rw[Z']at bu;subst bu;have Y:=m' V;clear V;go_quiet (first|(go_at_call 167;refine z57 (pB' _ _ _)));go_upto_region 4 with fail;refine G' (fun ah=>Mid w ah p q #[F, .slice M l.length O,fv, .int .i64 m, .string t, .string ⟨l.toArray⟩] ad
    F (List.replicate z (.string t)) (.slice M l.length O) l fv G (.slice (some ⟨g1,0,none⟩) (z+1) J) (List.replicate z (.string t)++[.string t]) (.slice none 0 0) [] (.slice none 0 0) []) ?_ ?_
   ·exact(d' Y).below ⟨rfl,rfl,rfl,z13 _,fun _ _=>rfl⟩
   clear d1 d3 Y;generalize bY:nh' m l.length=H;have ai:=jn' m l.length;rw[bY]at ai;intro ah aP;have d1:=y' (i:=1) aP.pb;simp at d1;have Y:=m' aP;clear aP;go_upto_region 5 with (at_builtin;(refine bV' rfl (.tmp 43) (.tmp 45) 44 rfl 5 (.int .u8 0) 1 underlying44 jf' rfl (.slice M l.length O) (bv l) (z53 (d' Y).b _) rfl ⟨ah.heap.size,0,none⟩ (.int .u8 H) rfl (by simp) rfl (by rw[Z'];omega) (by rw[Z'];omega) ?_;intro cp cq az bw bz;rw[<-eU' ai.1 ai.2,<-cP']at az;obtain⟨g2,aj,bA⟩:=aJ' az (by rw[Z'];simp);rw[show(bv (l++[UInt8.ofNat (H.toNat % 256)])).length=l.length+1 by simp[Z']]at bA;subst bA;have aA:=((d' Y).below ((z11 ah.heap.size ah).alloc (z13 _) _)).bytes bz az bw;have bZ:=H' (i:=1) aA.qb;have aQ:=y' (i:=1) aA.qb;rw[<-ac]at aQ;simp at aQ;have bB:=m' aA;clear az bw bz aA));refine G' (fun bC=>Mid w bC p q #[F, .slice M l.length O,fv, .int .i64 m, .string t, .string ⟨l.toArray⟩] (ad.setIfInBounds 1 (.slice (some ⟨g2,0,none⟩) (l.length+1) aj))
    F (List.replicate z (.string t)) (.slice M l.length O) l fv G (.slice (some ⟨g1,0,none⟩) (z+1) J) (List.replicate z (.string t)++[.string t]) (.slice (some ⟨g2,0,none⟩) (l.length+1) aj) (l++[UInt8.ofNat (H.toNat % 256)]) (.slice none 0 0) []) ?_ ?_
   ·exact(d' bB).set aO _
   generalize aB:ad.setIfInBounds 1 (.slice (some ⟨g2,0,none⟩) (l.length+1) aj)=aR;have ca:aR.size=6:=by rw[<-aB];simp[bt]
   clear d1 Y bB bZ aQ;have cr:l.length+1<=9223372036854775807:=by omega
   have cb:s1 H=s1 H:=rfl;have cs:=tC' H;have cu:=fun v w=>fy' ai.1 ai.2 (v:=v) (w:=w);clear cb;intro bC ak;have bD:=z14 ak.pb;have cc:=z14 ak.qb;have d5:=y' (i:=5) ak.pb;simp at d5;have bE:=m' ak;clear ak;refine ab'
    [Ev (D' q),Ev (D' p),Ev (D' p),Ep p 5,Ev (.string ⟨l.toArray⟩),Ev (.int .u8 H),se' H,Ev (.string (s1 H)),Ev (.string (⟨l.toArray⟩++s1 H)),Ev (D' q),Ep q 5,Et]
    [[3],[0],[2050],[3051],[4052],[4],[6054],[7055],[5053,8056],[1049],[10058],[11059,9057]] [50,51,52,53,54,55,56,57,58,59,60,0] [49,11,999]
    11 _ rfl rfl ?_ ?_ (hst:=by repeat' (first|exact V' _|exact fx' _|exact aj'|exact trivial|apply z12))
   ·refine⟨?_,?_,?_,?_,?_,?_,?_,?_,?_,?_,?_,trivial⟩;all_goals
     intro a x hb I;have cv:x.cell? ⟨p,5,none⟩=some (.string ⟨l.toArray⟩):=(hb.cell (p:=⟨p,5,none⟩) bD).trans d5;clear hb;simp[I',D']at I;try go_simp
     try exact z11 _ _
    all_goals first
     |exact⟨rfl,z11 _ _⟩
     |exact⟨_,rfl,(z11 _ _).alloc (z13 _) _,_,rfl,by simp⟩
     |(rw[if_neg (by omega)];go_simp;exact z11 _ _)
   ·intro f5 cw hb ab;simp only[ag',List.take]at ab;obtain⟨_,_,_,_,_,_,_,_,bF,_,bG,_⟩:=ab;have aC:=(d' bE).below (hb.mono (z13 _));have cd:=H' (i:=5) aC.qb;have aS:=y' (i:=5) aC.qb;rw[<-aB,<-ac]at aS;simp at aS;have bH:=m' aC;clear aC hb;simp only[O',bF,bG];go_simp;go_upto_region 6 with fail;refine G' (fun aD=>Mid w aD p q #[F, .slice M l.length O,fv, .int .i64 m, .string t, .string ⟨l.toArray⟩] (aR.setIfInBounds 5 (.string (⟨l.toArray⟩++s1 H)))
     F (List.replicate z (.string t)) (.slice M l.length O) l fv G (.slice (some ⟨g1,0,none⟩) (z+1) J) (List.replicate z (.string t)++[.string t]) (.slice (some ⟨g2,0,none⟩) (l.length+1) aj) (l++[UInt8.ofNat (H.toNat % 256)]) (.slice none 0 0) []) ?_ ?_
    ·exact(d' bH).set aO _
    rw[<-aB,<-ac];clear ac aB bt ca ad aR aS cd bH bE d5 bD cc bF bG;intro aD Z;have d4:=y' (i:=4) Z.pb;simp at d4;obtain⟨aT,aU,aV,cx,bI,bJ⟩:=fz' aD t (by omega);have ce:=Z.size;have aW:=Z.below (bJ.mono (z13 _));have cf:=y' (i:=2) aW.pb;simp at cf;have cy:=Z.qnew;have cg:=m' (fun g aK=>(z15 Z.b2 g aK).2);have aX:=m' aW;have ch:=m' bI;clear Z aW bI bJ;go_upto_region 7 with fail;go_upto_region 8 with (at_builtin;(refine bV' rfl (.tmp 69) (.tmp 71) 38 rfl 44 (.slice none 0 0) 24 underlying38 zq' rfl fv G (z53 (d' aX).f _) rfl ⟨aV.heap.size,0,none⟩ (.slice (some ⟨aT,0,none⟩) t.size aU) rfl (by simp) rfl (by omega) (by omega) ?_;intro cz cA aY bK aZ;obtain⟨bL,bM,bN⟩:=aJ' aY (by simp);rw[show(G++[Value.slice (some ⟨aT,0,none⟩) t.size aU]).length=G.length+1 by simp]at bN;subst bN;have aE:=((d' aX).below ((z11 aV.heap.size aV).alloc (z13 _) _)).Yc aZ aY bK;have bO:=((d' ch).app aZ (fun k hk=>z25 _ _ _ hk) (by simp) (d' aX).f);have cB:=H' (i:=2) aE.qb;have ci:=y' (i:=2) aE.qb;simp at ci;have bP:=m' aE;have cj:=m' bO;clear aY bK aZ aE bO));go_wp2;go_ret;refine⟨q, .slice (some ⟨g1,0,none⟩) (z+1) J, .slice (some ⟨g2,0,none⟩) (l.length+1) aj, .slice (some ⟨bL,0,none⟩) (G.length+1) bM, .slice (some ⟨aT,0,none⟩) t.size aU,UInt8.ofNat (H.toNat % 256),rfl,?_,aD.heap.size,ce,d' cg,(d' cj).set (d' bP).qb⟩;rw[<-zr'];exact(d' bP).set (j:=2) aO (.slice (some ⟨bL,0,none⟩) (G.length+1) bM)
theorem zs' (l:List UInt8) (k:Nat) (n:Int) (h0:0<=n) (h1:n < 256):bv (l.set k (UInt8.ofNat (n.toNat % 256)))=(bv l).set k (.int .u8 n):=by
 have h:=eU' h0 h1;simp[bv]at h ⊢;rw[h]
def fn' (N:Nat) (U:Nat->Prop) (z:Value) (F:Nat) (G:Value) (H:Nat) (fv:Value) (I:Nat) (b o:Nat):Prop:=
 b < N/\¬U b/\(z.ownBlock=some b->o < F)/\(G.ownBlock=some b->o < H)/\(fv.ownBlock=some b->o < I)
theorem eQ' (h:p.ownsRow 0 j 1 c t.length t) (hb:c.ownBlock=some w) (z:a < t.length):p.cell? ⟨w,a,none⟩=t[a]? :=by
 obtain⟨g,cap,rfl⟩:=aJ' h (by omega);cases hb;exact z59 h a (by omega)
theorem aG' {w:World} {e z:TypeId} {v v':Value} {n F b:Nat} {xs G:List Value} (h:w.ownsRow 0 e 1 v n xs) (H:w.ownsRow 0 z 1 v' F G) (I:e≠z) (hb:v.ownBlock=some b):v'.ownBlock≠some b:=by
 obtain⟨_,h2⟩:=h;rcases h2 with ⟨rfl,_⟩|⟨g,cap,M,rfl,_,J,_⟩
 ·cases hb
 ·cases hb;exact av' H J (fun e=>I e.symm)
theorem bo' {A:Nat->Nat->Prop} {w:World} {l:List UInt8} (h:w.ownsRow 0 5 1 c (bv l).length (bv l)) (F:∀g,c.ownBlock=some g->∀i,i < l.length->A g i):BAt A w c l:=by
 obtain⟨G,cap,rfl,h1,h2,h3⟩:=(show Row (fun g=>c.ownBlock=some g) w 5 c (bv l) from⟨h,fun g z=>z⟩).shape;rw[Z']at h1 h3 ⊢;refine⟨G,cap,rfl,h1,by unfold maxLen at h2;omega,fun h0=>?_⟩;obtain⟨g,rfl,z,H⟩:=h3 h0;exact⟨g,0,rfl,fun i hi=>by rw[z44];exact F g rfl i hi,fun i hi=>by rw[z44,H i hi,eb' hi]⟩
section
variable {w X:World} {p q:Nat} {cp cq:Array Value} {tv bv' fv tv2 bv2 fv2:Value} {ts fs ts2 fs2:List Value} {l l2:List UInt8}
theorem Mid.calm (H:Mid w X p q cp cq tv ts bv' l fv fs tv2 ts2 bv2 l2 fv2 fs2) (U:Nat->Prop) (I:w.ownsRow 0 9 1 tv ts.length ts) (hb:w.ownsRow 0 5 1 bv' (bv l).length (bv l)) (J:w.ownsRow 0 44 1 fv fs.length fs)
  (b o:Nat) (h:fn' w.heap.size U tv ts.length bv' l.length fv fs.length b o):X.cell? ⟨b,o,none⟩=w.cell? ⟨b,o,none⟩:=by
 obtain⟨h0,_,h1,h2,h3⟩:=h;by_cases z:tv.ownBlock=some b
 ·rw[eQ' H.t z (h1 z),eQ' I z (h1 z)]
 by_cases F:bv'.ownBlock=some b
 ·rw[eQ' H.b F (by rw[Z'];exact h2 F),eQ' hb F (by rw[Z'];exact h2 F)]
 by_cases G:fv.ownBlock=some b
 ·rw[eQ' H.f G (h3 G),eQ' J G (h3 G)]
 exact z39 (H.rest b h0 z F G)
theorem ky' {v z:Value} {b o n n2:Nat} (h:Loc w v z) (hb:b < w.heap.size) (hn:n<=n2) (h1:v.ownBlock=some b->o < n):z.ownBlock=some b->o < n2:=by
 intro e;rcases h with h|h|⟨g,h,F⟩
 ·rw[h]at e;cases e
 ·rw[h]at e;have:=h1 e;omega
 ·rw[h]at e;injection e with e;omega
theorem Mid.more (z:Mid w X p q cp cq tv ts bv' l fv fs tv2 ts2 bv2 l2 fv2 fs2) (U:Nat->Prop) (n1:ts.length<=ts2.length) (n2:l.length<=l2.length) (F:fs.length<=fs2.length)
  (b o:Nat) (h:fn' w.heap.size U tv ts.length bv' l.length fv fs.length b o):fn' X.heap.size U tv2 ts2.length bv2 l2.length fv2 fs2.length b o:=
 ⟨z20 h.1 z.size,h.2.1,ky' z.lt h.1 n1 h.2.2.1,ky' z.lb h.1 n2 h.2.2.2.1,ky' z.lf h.1 F h.2.2.2.2⟩
variable{D:Nat -> Prop}
theorem oc' (h:Loc w c f) (z:∀b,D b->b < w.heap.size) (F:∀b,D b->c.ownBlock≠some b):∀b,D b->f.ownBlock≠some b:=by
 intro b hb e;rcases h with h|h|⟨g,h,G⟩
 ·rw[h]at e;cases e
 ·rw[h]at e;exact F b hb e
 ·rw[h]at e;injection e with e;have:=z b hb;omega
end
def bO' (s:z10):List UInt8:=s.data.toList++List.replicate 8 201
theorem aN' (s:z10):(bO' s).length=s.size+8:=by simp[bO']
theorem kz' (h:w < o.size):(bO' o).getD w 0=o[w]:=by
 have z:w < o.data.toList.length:=by simpa using h
 simp only[bO',List.getD_eq_getElem?_getD,List.getElem?_append_left z,List.getElem?_eq_getElem z];rfl
theorem vR' (h:o.size<=w) (h2:w < o.size+8):(bO' o).getD w 0=201:=by
 have z:o.data.toList.length<=w:=by simpa using h
 simp only[bO',List.getD_eq_getElem?_getD,List.getElem?_append_right z,List.getElem?_replicate];rw[if_pos (by simp;omega)];rfl
theorem gf' (A:Nat->Nat->Prop) (v:Value) (s:z10) (w:World) (h:BAt A w v (bO' s)) (O:s.size<=140737488354000):
  Calls prog 79 #[v, .string s] w fun r w'=>r= .returned (.bool true)/\∃n,w'=w.drewN n:=by
 obtain⟨Q,cap,rfl,h1,h2,h3⟩:=h;rw[aN']at h1 h2 h3 ⊢;obtain⟨b,off,rfl,_,F⟩:=h3 (by omega);have H:=m' F;clear F h3;have n1:s.size+8<=9223372036854775807:=by omega
 have n2:(s.size:Int)<=9223372036854775807:=by omega
 go_enter func79,ntmps79;go_wp2;go_loopw[5] (fun i wr=>∃k:Nat,k<=s.size+8/\i= .int .i64 k/\∃n,wr=w.drewN n) (fun i _=>s.size+8 - (intOf i).toNat)
 case atStart=>exact⟨0,z54 _,rfl,0,rfl⟩
 case round=>
  obtain⟨k,hk,rfl,n,rfl⟩:=hrel;by_cases G:k < s.size+8
  ·have z:=(d' H) k G;by_cases I:k < s.size
   ·rw[kz' I]at z;have J:¬s.size<=k:=(by omega);go_wp2;go_quiet (fail);go_wp2;go_roundw
    case rel=>exact⟨k+1,by omega,by go_num,n+nq,by simp⟩
    case measure=>simp[intOf];omega
   ·rw[vR' (by omega) G]at z;have J:s.size<=k:=(by omega);have M:((201:UInt8).toNat:Int)=201:=rfl;rw[M]at z;go_wp2;go_quiet (fail);go_wp2;go_roundw
    case rel=>exact⟨k+1,by omega,by go_num,n+nq,by simp⟩
    case measure=>simp[intOf];omega
  ·go_wp2;go_ret;exact⟨rfl,_,rfl⟩
theorem nj' (l:List UInt8):Lib.byteCells l=bv l:=rfl
theorem pC' {rest:List Oper} (O:N.guard=none) (d s:Operand)
  (Q:N.op= .call {callee:= .builtin .copy,args:= #[d,s],argTypes:= #[44,9]}) (g n:Nat) (G:List UInt8) (z:z10)
  (V:p.ownsRow 0 5 1 (.slice (some ⟨g,0,none⟩) n n) n (bv G)) (hd:I.eval d= .slice (some ⟨g,0,none⟩) n n) (hs:I.eval s= .string z) (Y:z.size<=n) (aq:G.length=n)
  (h:∀w',w'.ownsRow 0 5 1 (.slice (some ⟨g,0,none⟩) n n) n (bv (z.data.toList++G.drop z.size))->p.grownBy w' (some g)->wpList prog B Z rest (I.put N.dst (.int .i64 z.size)) w'):
  wpList prog B Z (N::rest) I p:=by
 refine pi' O fun K hK=>?_;obtain⟨h1,h2⟩:=id V;rcases h2 with ⟨h2,_⟩|⟨g',au,H,e,aa,J,ab,ac,ad,ah⟩
 ·cases h2
 injection e with F av ai;injection F with F;injection F with F;subst F ai;obtain⟨i0,hi,ax,aj,ay⟩:=nT' jf';have M:H.size=n:=by simpa using ad
 have ak:=Lib.run_copy_row_string (P:=prog) p 44 9 N.type 5 g 0 n n z H 5 underlying44 (by rw[hi];simp[aj]) J Y (by omega);unfold Oper.wp execOp;simp only[Q,resolve,invoke,builtin,Sem.run_bind,Sem.run_pure,Result.andThen_ok,List.map_toArray,List.map_cons,List.map_nil,hs,hd,ak];have ao:H.toList=bv G:=by rw[<-ah,z46 (by simp[M])]
 refine hK _ _ (h _ ⟨by rw[Z'];simp;omega, .inr ⟨g,n,_,rfl,aa,z92 p g H _ _ _ J,ab,ac,?_,?_⟩⟩ ⟨rfl,rfl,rfl,by simp,?_⟩)
 ·simp[nj',Z',M];omega
 ·simp only[List.take_zero,List.nil_append,Nat.zero_add,nj',ao];rw[cP',z46 (by simp[Z'];omega)];simp[bv]
 ·intro k hk ap;exact pu' p g k _ (fun e=>ap (by rw[e]))
def fA' (s:z10) (j:Nat):List UInt8:=s.data.toList++(List.replicate j 201++List.replicate (8 - j) 0)
theorem od' (s:z10) (h:w<=8):(fA' s w).length=s.size+8:=by simp[fA'];omega
theorem uq' (s:z10) (h:w < 8):(fA' s w).set (s.size+w) 201=fA' s (w+1):=by
 have hl:s.data.toList.length=s.size:=by simp
 unfold fA';rw[zl' _ _ (by omega),hl,vK'];congr 1;match w,h with
 |0,_=>rfl
 |1,_=>rfl
 |2,_=>rfl
 |3,_=>rfl
 |4,_=>rfl
 |5,_=>rfl
 |6,_=>rfl
 |7,_=>rfl
theorem sj' (s:z10):s.data.toList++(List.replicate (s.size+8) (0:UInt8)).drop s.size=fA' s 0:=by simp[fA']
theorem ur' (s:z10):fA' s 8=bO' s:=by simp[fA',bO']
theorem zt' (l:List UInt8) (k:Nat):bv (l.set k 201)=(bv l).set k (.int .u8 201):=by simp[bv]
theorem pD' (s:z10) (w:World) (Z:s.size<=140737488354000):
  Calls prog 77 #[.string s] w fun r w'=>r= .returned (.slice (some ⟨w.heap.size,0,none⟩) (s.size+8) (s.size+8))/\Below w.heap.size w w'/\w.heap.size < w'.heap.size/\
   w'.ownsRow 0 5 1 (.slice (some ⟨w.heap.size,0,none⟩) (s.size+8) (s.size+8)) (s.size+8) (bv (bO' s)):=by
 have n1:(s.size:Int)+8<=9223372036854775807:=by omega
 obtain⟨n,hn⟩:∃n:Nat,s.size+8=n:=⟨_,rfl⟩;rw[hn];have z:=m' hn;have aa:n<=140737488354008:=by omega
 clear hn;go_enter func77,ntmps77;go_upto_region 2 with (refine hu' rfl (.tmp 7) (.tmp 7) rfl 0 .i64 .i64 (s.size+8) (s.size+8) n rfl rfl (by have:=d' z;omega) (by have:=d' z;omega) (by omega) (z54 _) ?_;intro w1 I Q);unfold Qt at I;rw[z55]at I;have ab:=m' I;have ac:=m' Q;clear I Q;go_upto_region 3 with (refine pC' rfl (.tmp 9) (.tmp 10) rfl w.heap.size n (List.replicate n 0) s (d' ab) rfl rfl (by have:=d' z;omega) (by simp) ?_;intro aq J V;rw[<-d' z,sj']at J;have ad:=m' J;have ah:=m' V;clear J V);go_wp2;have n2:n<=9223372036854775807:=by omega
 have n0:(n:Int)<=9223372036854775807:=by omega
 clear aa Z n1;go_loopw[4] (fun i wr=>∃k j:Nat,j<=8/\s.size+j=k/\i= .int .i64 k/\wr.ownsRow 0 5 1 (.slice (some ⟨w.heap.size,0,none⟩) n n) n (bv (fA' s j))/\Below w.heap.size w wr) (fun i _=>n - (intOf i).toNat)
 case atStart=>have h1:=d' ac;have h2:=d' ah;have G:=d' ad;rw[d' z]at G;have:=h1.size;exact⟨s.size,0,by omega,by omega,rfl,G,⟨h2.os.trans h1.os,h2.tape.trans h1.tape,h2.output.trans h1.output,z26 h1.size h2.size,fun k hk=>(h2.block k (by omega) (fun e=>by injection e with e;omega)).trans (h1.block k hk (fun e=>by cases e))⟩⟩
 case round=>
  obtain⟨k,j,hj,hk,rfl,F,hb⟩:=hrel;have M:=d' z;by_cases au:k < n
  ·have Y:=z59 F k (by omega);have av:=xO' F k;have ai:=m' (World.ownsRow.stored F k (.int .u8 201));have O:=m' hb;rw[eb' (by rw[od' s hj];omega)]at Y;have aj:=m' hk;have ak:=m' hj;clear F hb M hk hj;generalize (((fA' s j).getD k 0).toNat:Int)=old at Y;go_wp2;go_roundw
   case rel=>
    obtain⟨ao,H⟩:=d' ai;have hk:=d' aj;have hb:=d' O;have M:=d' z;have hj:=d' ak;have ap:j < 8:=(by omega);refine⟨k+1,j+1,by omega,by omega,by go_num,?_,?_⟩
    ·rw[<-uq' s ap,zt',hk];exact ao
    ·exact⟨H.os.trans hb.os,H.tape.trans hb.tape,H.output.trans hb.output,z26 hb.size H.size,fun i hi=>(H.block i (z20 hi hb.size) (fun e=>by injection e with e;omega)).trans (hb.block i hi)⟩
   case measure=>simp[intOf];omega
  ·have:j=8:=(by omega);subst this;rw[ur']at F;have G:=m' F;have O:=m' hb;clear F hb M hk;go_wp2;go_ret;exact⟨rfl,d' O,(z15 (d' G) _ rfl).2,d' G⟩
variable{cO:Option Nat}
theorem ba' (h:p.grownBy u cO):Far (fun k=>cO=some k) p u:=⟨h.os,h.tape,h.output,h.size,fun k hk z=>h.block k hk (fun e=>z e.symm)⟩
theorem Q' (w:World) (q j:Nat) (v:Value):Far (fun k=>k=q) w (w.setCell ⟨q,j,none⟩ v):=⟨rfl,rfl,rfl,by rw[z79];exact z13 _,fun k _ z=>P' z⟩
variable{D:Nat -> Prop}
theorem Far.own {x:World} (h:Far D p x) (z:p.ownsRow 0 j 1 c w t) (G:∀g,c.ownBlock=some g->¬D g):x.ownsRow 0 j 1 c w t:=
 L' z (fun g F=>h.rest g (z15 z g F).2 (G g F))
theorem Far.blk {E:Nat->Prop} {w x:World} (h:Far E w x) {k:Nat} {o:Obj} (hk:w.heap[k]? =some o) (z:¬E k):x.heap[k]? =some o:=(h.rest k (z14 hk) z).trans hk
def Us (z:Nat) (F:Value) (k:Nat):Prop:=k=z\/F.ownBlock=some k
structure Add (X Z:World) (wb:Nat) (as_ ss hv hv3:Value) (xs:List Value):Prop where
 blk:Z.heap[wb]? =some (.cells #[as_,ss,hv3] 83 (0,0))
 row:Z.ownsRow 0 108 1 hv3 xs.length xs
 far:Far (Us wb hv) X Z
 loc:Loc X hv hv3
theorem vS' (hb:p.heap[w]? =some (.cells #[c,f,G] 83 (0,0)))
  (I:p.ownsRow 0 108 1 G t.length t) (z:App (p.alloc aQ) u G W) (J:u.ownsRow 0 108 1 W aR.length aR):Add p (u.setCell ⟨w,2,none⟩ W) w c f G W aR:=by
 have F:Far (fun k=>G.ownBlock=some k) p u:=by have h1:Far (fun k=>G.ownBlock=some k) p (p.alloc aQ):=C' ((z11 _ _).alloc (z13 _) _);exact h1.trans (ba' z.grown) (fun _ _ h=>h)
 have M:G.ownBlock≠some w:=av' I hb (by decide);have H:=F.blk hb M;refine⟨?_,cw' J H (by decide),?_,?_⟩
 ·have:=aa' (j:=2) (v:=W) H;simpa using this
 ·exact(F.mono (E':=Us w G) (fun k _ h=> .inr h)).trans (Q' u w 2 W) (fun k _ h=> .inl h)
 ·have hs:p.heap.size<=(p.alloc aQ).heap.size:=by simp
  exact dy' hs z
theorem cg' (h:Loc p c f) (z:Loc u f G) (hs:p.heap.size<=u.heap.size):Loc p c G:=by
 rcases z with z|z|⟨g,z,F⟩
 ·exact .inl z
 ·rcases h with h|h|⟨g,h,F⟩
  ·exact .inl (z.trans h)
  ·exact .inr (.inl (z.trans h))
  ·exact .inr (.inr ⟨g,z.trans h,F⟩)
 ·exact .inr (.inr ⟨g,z,z26 hs F⟩)
theorem pE' (z:p.heap.size<=u.heap.size) (hl:Loc p c f) (b o:Nat) (h:fn' p.heap.size (Us w c) G a W q Y r b o):fn' u.heap.size (Us w f) G a W q Y r b o:=by
 obtain⟨h0,h1,h2⟩:=h;refine⟨z20 h0 z,fun hu=>?_,h2⟩;rcases hu with hu|hu
 ·exact h1 (.inl hu)
 ·rcases hl with hl|hl|⟨g,hl,F⟩
  ·rw[hl]at hu;cases hu
  ·exact h1 (.inr (hl ▸ hu))
  ·rw[hl]at hu;injection hu with hu;omega
theorem nk' (z:Far (Us w c) p u) (b o:Nat) (h:fn' p.heap.size (Us w c) f a G q W r b o):u.cell? ⟨b,o,none⟩=p.cell? ⟨b,o,none⟩:=
 z39 (z.rest b h.1 h.2.1)
theorem kA' {z:Type} (k:Nat) (x:z):List.replicate k x++[x]=List.replicate (k+1) x:=by
 rw[List.replicate_succ']
variable{fH:Nat×Nat}
theorem vT' (h:p.heap[w]? =some (.cells l j aN)) (z:p.heap[a]? =some (.cells aY bG fH)) (F:j≠bG):w≠a:=by
 rintro rfl;rw[h]at z;injection z with z;injection z with _ z _;exact F z
theorem Loc.mono {w x:World} {a b:Value} (h:Loc x a b) (hs:w.heap.size<=x.heap.size):Loc w a b:=by
 rcases h with h|h|⟨g,h,z⟩
 ·exact .inl h
 ·exact .inr (.inl h)
 ·exact .inr (.inr ⟨g,h,z26 hs z⟩)
def ap' (z n i:Int) (s:z10) (kp k e st q:Int) (b:z10):Value:= .agg #[.int .i64 z, .int .i64 n, .int .i64 i, .string s, .int .u64 kp, .int .i64 k, .int .i64 e, .int .i64 st, .int .i64 q, .string b]
theorem vU' (hb:Below (p.alloc aQ).heap.size (p.alloc aQ) u) (z:w<=p.heap.size):Below w p u:=
 ((z11 _ _).alloc z _).trans (hb.mono (by simp;omega))
theorem bE' (hb:Below (p.alloc (.cells l j)).heap.size (p.alloc (.cells l j)) u):∀i,u.cell? ⟨p.heap.size,i,none⟩=l[i]? :=
 fun i=>(hb.cell (p:=⟨p.heap.size,i,none⟩) (by simp)).trans (y' (z19 p _))
theorem Xx.kept {w w':World} {b:Nat} {k e s q:Int} {body:z10} (h:Xx w b k e s q body) (hb:w'.heap[b]? =w.heap[b]?):Xx w' b k e s q body:=
 ⟨(z39 hb).trans h.c0,(z39 hb).trans h.c1,(z39 hb).trans h.c2,(z39 hb).trans h.c3,(z39 hb).trans h.c4⟩
structure Lay (w x:World) (s:z10) (g n8:Nat):Prop where
 bel:Below w.heap.size w x
 lt:w.heap.size < g
 glt:g < x.heap.size
 s3:x.cell? ⟨w.heap.size,3,none⟩=some (.string s)
 own:x.ownsRow 0 5 1 (.slice (some ⟨g,0,none⟩) n8 n8) n8 (bv (bO' s))
theorem Lay.below {w x y:World} {s:z10} {g z:Nat} (h:Lay w x s g z) (hb:Below x.heap.size x y):Lay w y s g z:=
 ⟨h.bel.trans (hb.mono h.bel.size),h.lt,z20 h.glt hb.size,(hb.cell (p:=⟨w.heap.size,3,none⟩) (by have:=h.lt;have:=h.glt;show w.heap.size < _;omega)).trans h.s3,L' h.own (fun k hk=>hb.block k (z15 h.own k hk).2)⟩
theorem Lay.at {w x:World} {s:z10} {g z:Nat} (h:Lay w x s g z) (hn:s.size+8=z) (F:s.size<=140737488353980):Qn x (.slice (some ⟨g,0,none⟩) s.size z) s.data.toList:=by
 have hl:s.data.toList.length=s.size:=by simp
 refine⟨_,z,by rw[hl],by omega,by omega,fun _=>⟨g,0,rfl,fun i hi=>?_⟩⟩;rw[hl]at hi;have:=z59 h.own i (by omega);rw[z44,this,eb' (by rw[aN'];omega),kz' hi];have h2:i < s.data.toList.length:=by omega
 rw[z17,z18 h2];rfl
theorem pF' (s:z10) (w:World) (F:Array Value) (e:TypeId) (z:Nat) (hn:s.size+8=z) (I:s.size<=140737488353980) (h3:F[3]? =some (.string s)):
  Calls prog 77 #[.string s] (w.alloc (.cells F e)) fun r w'=>∃g,r= .returned (.slice (some ⟨g,0,none⟩) z z)/\Lay w w' s g z:=by
 subst hn;refine(pD' s _ (by omega)).mono ?_;rintro r w' ⟨rfl,hb,G,H⟩;refine⟨_,rfl,vU' hb (z13 _),by simp,by simpa using G,(bE' hb 3).trans h3,H⟩
def Qi (w:World) (e:TypeId) (size:Nat) (v:Value) (n:Nat) (xs:List Value):Prop:=
 xs.length=n * size/\((v= .slice none 0 0/\n=0)\/
  ∃g o cap z,v= .slice (some ⟨g,o,none⟩) n cap/\w.heap[g]? =some (.cells z e (0,0))/\n<=cap/\cap<=maxLen/\o+cap * size<=z.size/\(z.toList.drop o).take (n * size)=xs)
theorem bb' (w:World) (e:TypeId) (size:Nat):Qi w e size (.slice none 0 0) 0 []:=⟨by simp, .inl ⟨rfl,rfl⟩⟩
theorem Qi.Qv {w:World} {e:TypeId} {size n:Nat} {v:Value} {xs:List Value} (h:w.ownsRow 0 e size v n xs):Qi w e size v n xs:=by
 obtain⟨h1,h2⟩:=h;refine⟨h1,?_⟩;rcases h2 with h2|⟨g,cap,z,rfl,_,F,hn,G,hs,H⟩
 ·exact .inl h2
 ·exact .inr ⟨g,0,cap,z,rfl,F,hn,G,by omega,by simpa using H⟩
theorem Qi.keep {w w':World} {e:TypeId} {size n:Nat} {v:Value} {xs:List Value} (h:Qi w e size v n xs) (hk:∀g,v.ownBlock=some g->w'.heap[g]? =w.heap[g]?):Qi w' e size v n xs:=by
 obtain⟨h1,h2⟩:=h;refine⟨h1,?_⟩;rcases h2 with h2|⟨g,o,cap,z,rfl,F,r⟩
 ·exact .inl h2
 ·exact .inr ⟨g,o,cap,z,rfl,by rw[hk g rfl];exact F,r⟩
theorem Qi.lt {w:World} {e:TypeId} {size n:Nat} {v:Value} {xs:List Value} (h:Qi w e size v n xs):∀g,v.ownBlock=some g->g < w.heap.size:=by
 intro g z;obtain⟨_,h2⟩:=h;rcases h2 with ⟨rfl,_⟩|⟨g',o,cap,G,rfl,F,_⟩
 ·cases z
 ·cases z;exact z14 F
theorem Qi.ne {w:World} {e z:TypeId} {size n p:Nat} {v:Value} {xs:List Value} {c:Array Value} {fr:Nat×Nat} (h:Qi w e size v n xs) (hb:w.heap[p]? =some (.cells c z fr)) (G:e≠z):v.ownBlock≠some p:=by
 intro F;obtain⟨_,h2⟩:=h;rcases h2 with ⟨rfl,_⟩|⟨g,o,cap,I,rfl,H,_⟩
 ·cases F
 ·cases F;rw[H]at hb;injection hb with hb;injection hb with _ hb _;exact G hb
theorem Qi.ty {w:World} {e z:TypeId} {size F n G b:Nat} {v v':Value} {xs H:List Value} (h:Qi w e size v n xs) (I:Qi w z F v' G H) (J:e≠z) (hb:v.ownBlock=some b):v'.ownBlock≠some b:=by
 obtain⟨_,h2⟩:=h;rcases h2 with ⟨rfl,_⟩|⟨g,o,cap,O,rfl,M,_⟩
 ·cases hb
 ·cases hb;exact I.ne M (fun e=>J e.symm)
theorem Qi.far {E:Nat->Prop} {w x:World} (h:Far E w x) {e:TypeId} {size n:Nat} {v:Value} {xs:List Value} (z:Qi w e size v n xs) (G:∀g,v.ownBlock=some g->¬E g):Qi x e size v n xs:=
 z.keep (fun g F=>h.rest g (z.lt g F) (G g F))
theorem Qi.shape {w:World} {e:TypeId} {size n:Nat} {v:Value} {xs:List Value} (h:Qi w e size v n xs):∃z cap,v= .slice z n cap/\n<=cap/\cap<=maxLen/\
  (0 < n->∃g o,z=some ⟨g,o,none⟩/\∀i,i < n * size->w.cell? ⟨g,o+i,none⟩=xs[i]?):=by
 obtain⟨h1,h2⟩:=h;rcases h2 with ⟨rfl,rfl⟩|⟨g,o,cap,I,rfl,F,hn,G,hs,H⟩
 ·exact⟨none,0,rfl,by omega,by unfold maxLen;omega,fun h=>by omega⟩
 ·refine⟨_,cap,rfl,hn,G,fun _=>⟨g,o,rfl,fun i hi=>?_⟩⟩;rw[y' F,<-H,z69,if_pos hi,z83];simp
theorem Qi.drop {w:World} {e:TypeId} {size n k g o cap:Nat} {xs:List Value} (h:Qi w e size (.slice (some ⟨g,o,none⟩) n cap) n xs) (hk:k<=n):
  Qi w e size (.slice (some ⟨g,o+k * size,none⟩) (n - k) (cap - k)) (n - k) (xs.drop (k * size)):=by
 obtain⟨h1,h2⟩:=h;rcases h2 with ⟨h2,_⟩|⟨g',M,O,F,z,G,hn,Q,V,H⟩
 ·cases h2
 ·injection z with z _ I;injection z with z;injection z with z J;subst z J I;refine⟨by rw[z97,h1,<-Nat.sub_mul], .inr ⟨g,o+k * size,cap - k,F,rfl,G,by omega,by omega,?_,?_⟩⟩
  ·have:k * size+(cap - k) * size=cap * size:=(by rw[<-Nat.add_mul];congr 1;omega);omega
  ·rw[<-H,zo',List.drop_drop,Nat.sub_mul]
variable{C:Nat}
theorem Qi.none_left (h:Qi p j w (.slice (some ⟨q,r,none⟩) a C) a t):
  Qi p j w (.slice (some ⟨q,r,none⟩) 0 0) 0 []:=by
 obtain⟨h1,h2⟩:=h;rcases h2 with ⟨h2,_⟩|⟨g',J,M,F,z,G,hn,O,Q,V⟩
 ·cases h2
 ·injection z with z _ H;injection z with z;injection z with z I;subst z I H;exact⟨by simp, .inr ⟨q,r,0,F,rfl,G,by omega,by unfold maxLen;omega,by omega,by simp⟩⟩
theorem Qi.set {w:World} {e:TypeId} {size n g o cap i:Nat} {xs:List Value} (h:Qi w e size (.slice (some ⟨g,o,none⟩) n cap) n xs) (hi:i < n * size) (u:Value):
  Qi (w.setCell ⟨g,o+i,none⟩ u) e size (.slice (some ⟨g,o,none⟩) n cap) n (xs.set i u):=by
 obtain⟨h1,h2⟩:=h;rcases h2 with ⟨h2,_⟩|⟨g',Y,Z,F,z,H,hn,I,J,M⟩
 ·cases h2
 ·injection z with z _ O;injection z with z;injection z with z Q;subst z Q O;refine⟨by rw[xT'];exact h1, .inr ⟨g,o,cap,_,rfl,aa' H,hn,I,by simpa using J,?_⟩⟩;rw[<-M,xN'];apply z94;intro j;simp only[List.getElem?_take,List.getElem?_drop,List.getElem?_set,List.length_take,List.length_drop,Array.length_toList];by_cases hj:j < n * size
  ·have V:i < min (n * size) (F.size - o):=(by have:n * size<=cap * size:=xQ' _ hn;omega);by_cases G:i=j
   ·subst G;have:o+i < F.size:=by have:n * size<=cap * size:=xQ' _ hn;omega
    simp[hi,V,this]
   ·simp[hj,G]
  ·have:¬i=j:=(by omega);simp[hj,this]
theorem gq' {P:Program} (w:World) (t ty e:TypeId) (i:TypeInfo) (I:P.underlying t=some (.slice e)) (hi:P.info? e=some i)
  (g o F H:Nat) (G:Array Value) (J:w.heap[g]? =some (.cells G e (0,0)))
  (a:Addr) (m c:Nat) (z:List Value) (hl:z.length=m * i.size) (M:∀j u,z[j]? =some u->w.cell? (a.add j)=some u) (h1:∀u∈z,u.oneCell'=true)
  (O:F+m<=H) (Q:o+F * i.size+z.length<=G.size):
  (Builtin.append_ #[t,t] ty #[.slice (some ⟨g,o,none⟩) F H, .slice (some a) m c]).run P w=
   .ok (.slice (some ⟨g,o,none⟩) (F+m) H) (w.setRow g (G.toList.take (o+F * i.size)++z++G.toList.drop (o+F * i.size+z.length)).toArray):=by
 have V:=run_firstCells_some (P:=P) w i.size m a m c z hl M;have hst:=run_storeCells_at P g (o+F * i.size) e z 0 G w J (by simpa using Q) h1;simp only[Nat.add_zero]at hst;simp[Builtin.append_,run_underlying I,sizeOf,typeInfo,hi,Builtin.lenOf,O,V,Addr.add_lit,hst]
theorem hE' {P:Program} (w:World) (t ty e:TypeId) (i:TypeInfo) (I:Value) (size bytes:Nat) (V:P.underlying t=some (.slice e)) (hi:P.info? e=some i) (ac:i.zero=some I) (aj:i.size=size) (ak:i.bytes=bytes)
  (ao:I.cells.size=size) (v:Value) (n:Nat) (xs:List Value) (G:Qi w e size v n xs) (M:Addr) (m c:Nat) (z:List Value) (hl:z.length=m * size) (Y:∀j u,z[j]? =some u->w.cell? (M.add j)=some u)
  (h1:∀u∈z,u.oneCell'=true) (aD:0 < m) (hb:(n+m) * bytes<=140737488355328) (aE:n+m<=140737488355328):
  ∃v' w',(Builtin.append_ #[t,t] ty #[v, .slice (some M) m c]).run P w= .ok v' w'/\Qi w' e size v' (n+m) (xs++z)/\App w w' v v':=by
 subst aj ak;have ad:n+m<=maxLen:=by unfold maxLen;omega
 have Q:(xs++z).length=(n+m) * i.size:=by rw[z35,G.1,hl,Nat.add_mul]
 have grown:∀ (old:Nat) (row:Option Nat),Qi (w.drew.alloc (.cells (xs.toArray++z.toArray++Builtin.zeroCells I.cells (grownCap w (n+m) old e - (n+m))) e)) e i.size
    (.slice (some ⟨w.heap.size,0,none⟩) (n+m) (grownCap w (n+m) old e)) (n+m) (xs++z)/\
   w.grownBy (w.drew.alloc (.cells (xs.toArray++z.toArray++Builtin.zeroCells I.cells (grownCap w (n+m) old e - (n+m))) e)) row:=by
  intro old row;have ap:=ua' w (n+m) old e;have Z:grownCap w (n+m) old e<=maxLen:=xR' w (n+m) old e ad;refine⟨⟨Q, .inr ⟨w.heap.size,0,_,_,rfl,z19 w.drew _,ap,Z,?_,?_⟩⟩,⟨rfl,rfl,rfl,by simp,fun k hk _=>z25 w.drew _ k hk⟩⟩
  ·simp only[Array.size_append,List.size_toArray,size_zeroCells,ao,G.1,hl,<-Nat.add_mul,Nat.zero_add];exact xQ' _ (by omega)
  ·simp only[Array.toList_append,List.append_assoc,List.drop_zero];rw[<-z38,<-Q];exact List.take_left
 rcases G.2 with ⟨rfl,rfl⟩|⟨g,o,cap,J,rfl,ah,aF,Z,aG,aq⟩
 ·have au:xs=[]:=z68 (by simpa using G.1);subst au;have O:=run_append_nil (P:=P) w t ty e i I V hi ac M m c z hl Y (by omega) (by omega) (by simp only[Nat.zero_add]at hb;omega);have H:=grown 0 none;simp only[Nat.zero_add,List.nil_append,Array.empty_append]at H ⊢;exact⟨_,_,O,H.1,⟨H.2, .inr ⟨H.2,w.heap.size,rfl,z13 _⟩⟩⟩
 ·by_cases aa:n+m<=cap
  ·have av:(n+m) * i.size<=cap * i.size:=xQ' _ aa;rw[Nat.add_mul]at av;have ax:o+n * i.size+z.length<=J.size:=(by rw[hl];omega);have O:=gq' (P:=P) w t ty e i V hi g o n cap J ah M m c z hl Y h1 aa ax;refine⟨_,_,O,⟨Q, .inr ⟨g,o,cap,_,rfl,z92 w g J _ e _ ah,aa,Z,?_,?_⟩⟩,⟨⟨rfl,rfl,rfl,by simp,fun k _ hk=>pu' w g k _ (fun e=>hk (by simp[Value.ownBlock,e]))⟩, .inl rfl⟩⟩
   ·simp only[List.size_toArray,List.length_append,List.length_take,List.length_drop,Array.length_toList];omega
   ·have ay:(J.toList.take (o+n * i.size)++z++J.toList.drop (o+n * i.size+z.length)).drop o=xs++(z++J.toList.drop (o+n * i.size+z.length)):=(by rw[z38,zk' (by simp;omega),zo'];congr 1;rw[<-aq];congr 1;omega);simp only
    rw[ay,<-z38,<-Q];exact List.take_left
  ·have aH:grownCap w (n+m) cap e=grownCap w (n+m) cap e:=rfl;have holds:∀j u,xs[j]? =some u->w.cell? ((⟨g,o,none⟩:Addr).add j)=some u:=by
    intro j u hj;have ai:j < n * i.size:=by have:=(z28.1 hj).1;rw[G.1]at this;exact this
    obtain⟨aI,aJ,F,_,_,ab⟩:=G.shape;have az:0 < n:=by
     rcases Nat.eq_zero_or_pos n with h|h
     ·subst h;simp at ai
     ·exact h
    obtain⟨g',aK,aA,ab⟩:=ab az;injection F with F;rw[aA]at F;injection F with F;injection F with F aB;subst F aB;have:=ab j ai;rw[hj]at this;unfold Addr.add;split
    ·rename_i h0;subst h0;simpa using this
    ·exact this
   have O:=run_append_grow (P:=P) w t ty e i I V hi ac ⟨g,o,none⟩ n cap xs G.1 holds M m c z hl Y (by omega) (by unfold maxLen at ad;omega) (growslice_fits (by omega) hb);have H:=grown cap (Value.ownBlock (.slice (some ⟨g,o,none⟩) n cap));have aC:=grown cap none;exact⟨_,_,O,H.1,⟨H.2, .inr ⟨aC.2,w.heap.size,rfl,z13 _⟩⟩⟩
end Go.Proofs.YtamafdcnbcoegaaGreat
namespace Go.Proofs.YtamafdcnbcoegaaGreat
attribute [local simp, local go_sem] Ev Ep Ei Eb Et
namespace Mq
structure Jl where
 base:Nat
 kept:List (z10×Nat)
 held:List Nat
structure Ag where
 Qa:Nat
 Qf:Nat
 Qd:Bool
 fenced:Bool
 fl:Nat->Jl
def upd (f:Nat->Jl) (s:Nat) (x:Jl):Nat->Jl:=fun t=>if t=s then x else f t
theorem Ql (f:Nat->Jl) (s:Nat) (x:Jl):upd f s x s=x:=by simp[upd]
variable{w a:Nat}
theorem Va (f:Nat->Jl) (x:Jl) (h:a≠w):upd f w x a=f a:=by simp[upd,h]
def Ag.room (a:Ag):Nat:=(a.fl 0).kept.length+(a.fl 1).kept.length+(a.fl 2).kept.length
def Ag.Jy (a:Ag) (z:Int) (size:Nat):Int:=
 if z < 0\/3<=z then 5 else if 20 < size then 6 else if 24<=a.room then 7 else 0
def Ag.Xi (a:Ag) (s:Nat) (body:z10):Ag:={a with fl:=upd a.fl s {a.fl s with kept:=(a.fl s).kept++[(body,0)]}}
def Ag.Zx (a:Ag) (s:Nat):List z10:=(a.fl s).kept.map (·.1)
def due (f:Jl) (Qf i sent:Nat):Bool:= !(f.held.contains (f.base+1+i)) && (sent==0||decide (sent+4<=Qf))
def sendTo (Qa s:Nat) (f:Jl) (Qf:Nat):Nat->List (z10×Nat) ×List (List UInt8)
 |0=>(f.kept,[])
 |i+1=>
  let r:=sendTo Qa s f Qf i
  match f.kept[i]? with
  |none=>r
  |some x=>if due f Qf i x.2 then(r.1.set i (x.1,Qf),r.2++[Qb.bytes 3 Qa s (f.base+1+i:Nat) x.1.data.toList])else r
def Ag.gone (a:Ag) (s:Nat) (pk':Int):Nat:=min (pk' - (a.fl s).base).toNat (a.fl s).kept.length
def Jl.drop (f:Jl) (n:Nat):Jl:={f with base:=f.base+n,kept:=f.kept.drop n}
def Xy (f:Nat->Jl) (n:Nat->Nat) (s:Nat):Nat->Jl:=fun t=>if t < s then(f t).drop (n t)else f t
theorem dropTo_zero (f:Nat->Jl) (n:Nat->Nat):Xy f n 0=f:=by funext t;simp[Xy]
theorem Vu (f:Nat->Jl) (n:Nat->Nat) (s:Nat):Xy f n s s=f s:=by simp[Xy]
theorem dropTo_succ (f:Nat->Jl) (n:Nat->Nat) (s:Nat):Xy f n (s+1)=upd (Xy f n s) s ((f s).drop (n s)):=by
 funext t;unfold Xy upd;by_cases h:t=s
 ·subst h;simp
 ·by_cases h2:t < s
  ·simp[h,h2,show t < s+1 by omega]
  ·simp[h,h2,show ¬t < s+1 by omega]
def Ag.drop (a:Ag) (n:Nat->Nat):Ag:={a with fl:=Xy a.fl n 3}
def Ag.Xr (a:Ag) (z Qa F G:Int) (body:z10) (s:Nat):Nat:=
 if Qa≠a.Qa then 0 else if z=2 then a.gone s (Qb.Qg body.data.toList (4 * s))else if z=4/\F=s/\a.Qd=true then a.gone s G else 0
def fresh (f:Nat->Jl) (s:Nat):Nat->Jl:=fun t=>if t < s then {f t with kept:=(f t).kept.map fun r=>(r.1,0),held:=[]}else f t
def bitsOf (z:Nat) (c:Nat):Nat->List Nat
 |0=>[]
 |i+1=>bitsOf z c i++(if c / 2 ^ i % 2=1 then [z+2+i]else [])
def Ag.ackSeq (a:Ag) (s:Nat) (q:Int):Nat:=min q.toNat ((a.fl s).base+(a.fl s).kept.length)
def Ag.Qx (a:Ag) (k e st q:Int) (b:z10):Ag:=
 if k=5/\(a.Qa:Int) < e then {a with fenced:=true}
 else if e≠a.Qa then a
 else if k=5 then {a with Qd:=false}
 else if k=2 then {a.drop (a.Xr k e st q b)with Qd:=true,fl:=fresh (a.drop (a.Xr k e st q b)).fl 3}
 else if k=4 then
  if a.Qd=false\/a.ackSeq st.toNat q < (a.fl st.toNat).base then a
  else {a.drop (a.Xr k e st q b)with fl:=upd (a.drop (a.Xr k e st q b)).fl st.toNat {(a.drop (a.Xr k e st q b)).fl st.toNat with held:=bitsOf (a.ackSeq st.toNat q) (b.data.toList.getD 0 0).toNat 3}}
 else a
def Xe (Qa Qf:Nat) (f:Nat->Jl) (s:Nat):Nat->Jl:=fun t=>if t < s then {f t with kept:=(sendTo Qa t (f t) Qf 4).1}else f t
def Zl (Qa Qf:Nat) (f:Nat->Jl):Nat->List (List UInt8)
 |0=>[]
 |s+1=>Zl Qa Qf f s++(sendTo Qa s (f s) Qf 4).2
def Ag.tick (a:Ag):Ag×List (List UInt8):=
 if a.fenced=true then({a with Qf:=a.Qf+1},[])
 else if a.Qd=false then({a with Qf:=a.Qf+1},[Qb.bytes 1 a.Qa 0 0 []])
 else({a with Qf:=a.Qf+1,fl:=Xe a.Qa (a.Qf+1) a.fl 3},Zl a.Qa (a.Qf+1) a.fl 3)
end Mq
end Go.Proofs.YtamafdcnbcoegaaGreat
namespace Go.Proofs.YtamafdcnbcoegaaGreat
attribute [local simp, local go_sem] Ev Ep Ei Eb Et
open Go.RowKit Go.Proofs.Tryz
def aK' (l:List (z10×Nat)):List Value:=l.flatMap fun r=>[.string r.1, .int .i64 r.2]
def J' (l:List Nat):List Value:=l.map fun n:Nat=> .int .i64 (n:Int)
structure ah' where
 dead:Bool
 g0:Int
 g1:Int
 g2:Int
 st:Int
 ex:Value
def ai' (a:Mq.Ag) (r:ah') (z F:Nat->Value):Array Value:=
 #[.int .i64 a.Qa, .int .i64 a.Qf, .bool a.Qd, .bool a.fenced, .bool r.dead, .int .i64 (a.fl 0).base,z 0,F 0, .int .i64 (a.fl 1).base,z 1,F 1, .int .i64 (a.fl 2).base,z 2,F 2, .int .i64 r.g0, .int .i64 r.g1, .int .i64 r.g2, .int .i64 r.st,r.ex]
structure Qk (w:World) (p:Nat) (a:Mq.Ag) (r:ah') (kv hv:Nat->Value):Prop where
 blk:w.heap[p]? =some (.cells (ai' a r kv hv) 124 (0,0))
 kept:∀s,s < 3->Qi w 242 2 (kv s) (a.fl s).kept.length (aK' (a.fl s).kept)
 held:∀s,s < 3->Qi w 3 1 (hv s) (a.fl s).held.length (J' (a.fl s).held)
 apk:∀s t,s < 3->t < 3->s≠t->∀g,(kv s).ownBlock=some g->(kv t).ownBlock≠some g
 aph:∀s t,s < 3->t < 3->s≠t->∀g,(hv s).ownBlock=some g->(hv t).ownBlock≠some g
 ep:a.Qa<=1000000000000000
 tk:a.Qf<=1000000000000000
 bs:∀s,s < 3->(a.fl s).base<=1000000000000000
 kl:∀s,s < 3->(a.fl s).kept.length<=24
 hl:∀s,s < 3->(a.fl s).held.length<=3
def aO' (p:Nat) (z F:Nat->Value) (k:Nat):Prop:=k=p\/∃s,s < 3/\((z s).ownBlock=some k\/(F s).ownBlock=some k)
theorem Qk.far {E:Nat->Prop} {w x:World} {p:Nat} {a:Mq.Ag} {r:ah'} {z F:Nat->Value} (h:Qk w p a r z F) (G:Far E w x) (H:∀k,aO' p z F k->¬E k):Qk x p a r z F:=
 ⟨G.blk h.blk (H p (.inl rfl)),fun s hs=>(h.kept s hs).far G (fun g I=>H g (.inr ⟨s,hs, .inl I⟩)),fun s hs=>(h.held s hs).far G (fun g I=>H g (.inr ⟨s,hs, .inr I⟩)),h.apk,h.aph,h.ep,h.tk,h.bs,h.kl,h.hl⟩
variable{y:Mq.Ag}{H:ah'}{b z:Nat -> Value}
theorem Qk.lt {w:World} {p:Nat} (h:Qk w p y H b z):∀k,aO' p b z k->k < w.heap.size:=by
 rintro k (rfl|⟨s,hs,hk|hk⟩)
 ·exact z14 h.blk
 ·exact(h.kept s hs).lt k hk
 ·exact(h.held s hs).lt k hk
variable{p:World}{w:Nat}
theorem vV' (R:Qk p w y H b z):
  Calls prog 207 #[.pointer (some ⟨w,0,none⟩)] p fun e w'=>e= .returned (.int .i64 y.room)/\∃n,w'=p.drewN n:=by
 have F:=y' (i:=6) R.blk;have G:=y' (i:=9) R.blk;have I:=y' (i:=12) R.blk;obtain⟨V,Y,J,_⟩:=(R.kept 0 (by omega)).shape;obtain⟨Z,aa,M,_⟩:=(R.kept 1 (by omega)).shape;obtain⟨ab,ac,O,_⟩:=(R.kept 2 (by omega)).shape;have k0:=R.kl 0 (by omega);have k1:=R.kl 1 (by omega);have k2:=R.kl 2 (by omega);simp[ai']at F G I;rw[J]at F;rw[M]at G;rw[O]at I;have Q:Hid ((y.room:Int)=(y.fl 0).kept.length+(y.fl 1).kept.length+(y.fl 2).kept.length):=by show _= _;simp[Mq.Ag.room]
 clear R J M O;generalize (y.fl 0).kept.length=n0 at *;generalize (y.fl 1).kept.length=n1 at *;generalize (y.fl 2).kept.length=n2 at *;go_enter func207,ntmps207;go_wp2;go_quiet (fail);go_wp2;go_ret;exact⟨dB' (d' Q).symm,_,rfl⟩
theorem pG' (R:Qk p w y H b z) (st:Int) (F:z10) (hd:H.dead=false):
  Calls prog 168 #[.pointer (some ⟨w,0,none⟩), .int .i64 st, .string F] p fun e w'=>e= .returned (.int .i64 (y.Jy st F.size))/\∃n,w'=p.drewN n:=by
 have c4:=y' (i:=4) R.blk;simp[ai',hd]at c4;have G:=m' (vV' R);have I:Hid (y.Jy st F.size=if st < 0\/3<=st then 5 else if 20 < F.size then 6 else if 24<=y.room then 7 else 0):=rfl;have J:y.room<=72:=by have k0:=R.kl 0 (by omega);have k1:=R.kl 1 (by omega);have k2:=R.kl 2 (by omega);unfold Mq.Ag.room;omega
 clear R hd;generalize y.room=n at *;by_cases h1:st < 0
 ·go_enter func168,ntmps168;go_wp2_with (go_at_call 207;refine(d' G).mono ?_;rintro e w' ⟨rfl,k,rfl⟩);go_ret;exact⟨dB' (by rw[d' I,if_pos (.inl h1)]),_,rfl⟩
 by_cases h2:3<=st
 ·go_enter func168,ntmps168;go_wp2_with (go_at_call 207;refine(d' G).mono ?_;rintro e w' ⟨rfl,k,rfl⟩);go_ret;exact⟨dB' (by rw[d' I,if_pos (.inr h2)]),_,rfl⟩
 by_cases h3:20 < (F.size:Int)
 ·go_enter func168,ntmps168;go_wp2_with (go_at_call 207;refine(d' G).mono ?_;rintro e w' ⟨rfl,k,rfl⟩);go_ret;exact⟨dB' (by rw[d' I,if_neg (by omega),if_pos (by omega)]),_,rfl⟩
 by_cases h4:24<=(n:Int)
 ·go_enter func168,ntmps168;go_wp2_with (go_at_call 207;refine(d' G).mono ?_;rintro e w' ⟨rfl,k,rfl⟩);go_ret;exact⟨dB' (by rw[d' I,if_neg (by omega),if_neg (by omega),if_pos (by omega)]),_,rfl⟩
 ·go_enter func168,ntmps168;go_wp2_with (go_at_call 207;refine(d' G).mono ?_;rintro e w' ⟨rfl,k,rfl⟩);go_ret;exact⟨dB' (by rw[d' I,if_neg (by omega),if_neg (by omega),if_neg (by omega)]),_,rfl⟩
variable{k:List Nat}
theorem oe' (h:w < k.length):(J' k)[w]? =some (.int .i64 (k[w]:Int)):=by simp[J',h]
theorem of' (h:∀j (hj:j < k.length),k[j]≠w):k.contains w=false:=by
 rw[List.contains_eq_any_beq,List.any_eq_false];intro x z;obtain⟨j,hj,rfl⟩:=z78.1 z;have:=h j hj;simp;omega
variable{a:Nat}
theorem pH' (hj:a < k.length) (h:k[a]=w):k.contains w=true:=by
 rw[zm'];exact h ▸ z81 hj
variable{c:Value}
theorem us' (n:Nat) (ac:p.cell? ⟨w,a+2,none⟩=some c) (R:Qi p 3 1 c k.length (J' k)) (hl:k.length<=1000):
  Calls prog 172 #[.pointer (some ⟨w,a,none⟩), .int .i64 n] p fun e w'=>e= .returned (.bool (k.contains n))/\∃z,w'=p.drewN z:=by
 obtain⟨ad,cap,rfl,h1,h2,h3⟩:=R.shape;have Q:=m' h3;clear h3 R;go_enter func172,ntmps172;go_wp2;go_loopw[5] (fun i wr=>∃z:Nat,z<=k.length/\i= .int .i64 z/\(∀j (hj:j < k.length),j < z->k[j]≠n)/\∃q,wr=p.drewN q) (fun i _=>k.length - (intOf i).toNat)
 case atStart=>exact⟨0,z54 _,rfl,fun j hj h=>absurd h (by omega),0,rfl⟩
 case round=>
  obtain⟨z,hk,rfl,I,q,rfl⟩:=hrel;have J:=m' I;clear I;by_cases M:z < k.length
  ·obtain⟨g,o,rfl,G⟩:=(d' Q) (by omega);have H:=G z (by omega);rw[oe' M]at H;have O:Hid (k[z]=k[z]):=rfl;by_cases F:k[z]=n
   ·rw[F]at H;have V:=m' (pH' M F);clear G F O;go_wp2;go_ret;exact⟨aR' (d' V).symm,_,rfl⟩
   ·have Y:=m' F;have Z:¬ ((k[z]:Int)=(n:Int)):=(by omega);clear G F O;generalize aa:(k[z]:Int)=x at H Z;clear aa;go_wp2;go_roundw
    case rel=>exact⟨z+1,by omega,by go_num,fun j hj h=>by
           by_cases ab:j=z
           ·subst ab;exact d' Y
           ·exact(d' J) j hj (by omega),_,rfl⟩
    case measure=>simp[intOf];omega
  ·go_wp2;go_ret;exact⟨aR' (of' (fun j hj=>(d' J) j hj (by omega))).symm,_,rfl⟩
theorem bR' {w:World} {p:Nat} {a:Mq.Ag} {r:ah'} {z F:Nat->Value} (R:Qk w p a r z F) (s:Nat) (hs:s < 3):
  w.cell? ⟨p,5+s * 3,none⟩=some (.int .i64 (a.fl s).base)/\w.cell? ⟨p,5+s * 3+1,none⟩=some (z s)/\w.cell? ⟨p,5+s * 3+2,none⟩=some (F s):=by
 obtain rfl|rfl|rfl:s=0\/s=1\/s=2:=by omega
 all_goals exact⟨y' R.blk,y' R.blk,y' R.blk⟩
theorem pI' (R:Qk p w y H b z) (s:Nat) (hs:s < 3) (n:Int) (hn: -9000000000000000000<=n/\n<=9000000000000000000):
  Calls prog 209 #[.pointer (some ⟨w,0,none⟩), .int .i64 s, .int .i64 n] p fun e w'=>e= .returned (.int .i64 (y.gone s n))/\w'=p:=by
 obtain⟨c0,c1,c2⟩:=bR' R s hs;obtain⟨I,cap,G,_⟩:=(R.kept s hs).shape;rw[G]at c1;have k0:=R.kl s hs;have J:=R.bs s hs;have F:Hid (y.gone s n=min (n - (y.fl s).base).toNat (y.fl s).kept.length):=rfl;clear R G c2;generalize (y.fl s).base=bs at *;generalize (y.fl s).kept.length=len at *;obtain⟨n1,n2⟩:=hn;have w1:wrap64 (n - (bs:Int))=n - bs:=by unfold wrap64;omega
 by_cases h1:n - (bs:Int) < 0
 ·go_enter func209,ntmps209;go_wp2;go_ret;exact⟨dB' (by rw[d' F];omega),rfl⟩
 ·by_cases h2:(len:Int) < n - (bs:Int)
  ·go_enter func209,ntmps209;go_wp2;go_ret;exact⟨dB' (by rw[d' F];omega),rfl⟩
  ·go_enter func209,ntmps209;go_wp2;go_ret;exact⟨dB' (by rw[d' F];omega),rfl⟩
theorem tG':(prog.info? 242).map (fun i=>(i.zero,i.size,i.bytes))=some (some (.agg #[.string ⟨#[]⟩, .int .i64 0]),2,24):=by kernel_rfl
theorem og':(prog.info? 3).map (fun i=>(i.zero,i.size,i.bytes))=some (some (.int .i64 0),1,8):=by kernel_rfl
theorem au' {P:Program} {e:TypeId} {z:Value} {size bytes:Nat} (h:(P.info? e).map (fun i=>(i.zero,i.size,i.bytes))=some (some z,size,bytes)):∃i,P.info? e=some i/\i.zero=some z/\i.size=size/\i.bytes=bytes:=by
 cases hi:P.info? e with
 |none=>rw[hi]at h;cases h
 |some i=>rw[hi]at h;injection h with h;injection h with h1 h2;injection h2 with h2 h3;exact⟨i,rfl,h1,h2,h3⟩
variable{B:Array Oper}{N:Oper}{I:Act}{Z:Exit -> Act -> World -> Prop}
theorem cx' {rest:List Oper} (H:N.guard=none) (s x:Operand) (t:TypeId) (J:N.op= .call {callee:= .builtin .append,args:= #[s,x],argTypes:= #[t,t]})
  (e:TypeId) (F:Value) (size bytes:Nat) (M:prog.underlying t=some (.slice e)) (O:(prog.info? e).map (fun i=>(i.zero,i.size,i.bytes))=some (some F,size,bytes)) (Q:F.cells.size=size)
  (v:Value) (n:Nat) (xs:List Value) (V:Qi p e size v n xs) (hs:I.eval s=v) (G:Addr) (m c:Nat) (z:List Value) (Y:I.eval x= .slice (some G) m c) (hl:z.length=m * size) (aa:∀j u,z[j]? =some u->p.cell? (G.add j)=some u)
  (h1:∀u∈z,u.oneCell'=true) (ab:0 < m) (hb:(n+m) * bytes<=140737488355328) (ac:n+m<=140737488355328)
  (h:∀v' w',Qi w' e size v' (n+m) (xs++z)->App p w' v v'->wpList prog B Z rest (I.put N.dst v') w'):wpList prog B Z (N::rest) I p:=by
 obtain⟨i0,hi,ad,ah,ai⟩:=au' O;obtain⟨v',w',aj,h2,h3⟩:=hE' (P:=prog) p t N.type e i0 F size bytes M hi ad ah ai Q v n xs V G m c z hl aa h1 ab hb ac;refine pi' H fun _ hK=>?_;unfold Oper.wp execOp;simp only[J,resolve,invoke,builtin,Sem.run_bind,Sem.run_pure,Result.andThen_ok,List.map_toArray,List.map_cons,List.map_nil,hs,Y,aj];exact hK _ _ (h v' w' h2 h3)
def aU' (w w':World) (p:Nat) (a':Mq.Ag) (r:ah') (z F:Nat->Value):Prop:=
 ∃G H,Qk w' p a' r G H/\Far (aO' p z F) w w'/\∀k,aO' p G H k->aO' p z F k\/w.heap.size<=k
def jN' (f:Nat->Value) (s:Nat) (v:Value):Nat->Value:=fun t=>if t=s then v else f t
theorem bf' (f:Nat->Value) (s:Nat) (v:Value):jN' f s v s=v:=by simp[jN']
theorem aB' (f:Nat->Value) (v:Value) (h:a≠w):jN' f w v a=f a:=by simp[jN',h]
theorem mj' (a:Mq.Ag) (r:ah') (z F:Nat->Value) (s:Nat) (hs:s < 3) (v:Value) (x:List (z10×Nat)):
  (ai' a r z F).setIfInBounds (5+s * 3+1) v=ai' {a with fl:=Mq.upd a.fl s {a.fl s with kept:=x}} r (jN' z s v) F:=by
 obtain rfl|rfl|rfl:s=0\/s=1\/s=2:=by omega
 all_goals rfl
theorem fB' (l:List (z10×Nat)) (b:z10):aK' (l++[(b,0)])=aK' l++[.string b, .int .i64 0]:=by simp[aK']
variable{u:World}{f:Value}
theorem dN' {w:World} (hb:Below w.heap.size w p) (h:App p u c f):Far (fun k=>c.ownBlock=some k) w u:=by
 have h1:Far (fun k=>c.ownBlock=some k) w p:=C' hb;exact h1.trans (ba' h.grown) (fun _ _ h=>h)
theorem gg' {w:World} (hb:Below w.heap.size w p) (h:App p u c f):∀g,f.ownBlock=some g->c.ownBlock=some g\/w.heap.size<=g:=by
 intro g z;rcases h.where_ with h|⟨_,g',h,F⟩
 ·exact .inl (h ▸ z)
 ·rw[h]at z;injection z with z;have:=hb.size;exact .inr (by omega)
theorem Qk.keptStep (R:Qk p w y H b z) (s:Nat) (hs:s < 3) {v':Value} {x:List (z10×Nat)} (O:Far (fun k=>(b s).ownBlock=some k) p u)
  (hl:∀g,v'.ownBlock=some g->(b s).ownBlock=some g\/p.heap.size<=g) (ai:Qi u 242 2 v' x.length (aK' x)) (aj:x.length<=24):
  (∃C,u.heap[w]? =some (.cells C 124 (0,0))/\C[5+s * 3+1]? =some (b s))/\
  aU' p (u.setCell ⟨w,5+s * 3+1,none⟩ v') w {y with fl:=Mq.upd y.fl s {y.fl s with kept:=x}} H b z:=by
 have ac:(b s).ownBlock≠some w:=(R.kept s hs).ne R.blk (by decide);have ad:=O.blk R.blk ac;have ak:∀t,t < 3->(b t).ownBlock≠some w:=fun t F=>(R.kept t F).ne R.blk (by decide);have ao:∀t,t < 3->(z t).ownBlock≠some w:=fun t F=>(R.held t F).ne R.blk (by decide);have Z:∀k,k < p.heap.size->v'.ownBlock=some k->(b s).ownBlock=some k:=fun k hk e=>(hl k e).elim id (fun h=>by omega);have Q:=Q' u w (5+s * 3+1) v';have aa:∀t,Mq.upd y.fl s {y.fl s with kept:=x} t=if t=s then {y.fl s with kept:=x}else y.fl t:=fun t=>rfl
 refine⟨⟨_,ad,?_⟩,jN' b s v',z,⟨?_,?_,?_,?_,R.aph,R.ep,R.tk,?_,?_,?_⟩,?_,?_⟩
 ·obtain rfl|rfl|rfl:s=0\/s=1\/s=2:=by omega
  all_goals rfl
 ·rw[<-mj' y H b z s hs];exact aa' ad
 ·intro t F;by_cases I:t=s
  ·subst I;rw[bf'];simp only[Mq.Ql];refine ai.far Q (fun g G J=>?_);rw[J]at G;exact ac (Z w (z14 R.blk) G)
  ·rw[aB' _ _ I];simp only[Mq.Va _ _ I];exact((R.kept t F).far O (fun g G ab=>R.apk t s F hs I g G ab)).far Q (fun g G J=>ak t F (by rw[G,J]))
 ·intro t F;have:(Mq.upd y.fl s {y.fl s with kept:=x} t).held=(y.fl t).held:=by rw[aa];split <;> simp_all
  simp only[this];exact((R.held t F).far O (fun g G ab=>(R.held t F).ty (R.kept s hs) (by decide) G ab)).far Q (fun g G J=>ao t F (by rw[G,J]))
 ·intro t M F hu V g G;by_cases I:t=s
  ·subst I;rw[bf']at G;rw[aB' _ _ (fun e=>V e.symm)];intro Y;have ap:=(R.kept M hu).lt g Y;exact R.apk t M F hu V g (Z g ap G) Y
  ·rw[aB' _ _ I]at G;by_cases ah:M=s
   ·subst ah;rw[bf'];intro Y;exact R.apk t M F hu V g G (Z g ((R.kept t F).lt g G) Y)
   ·rw[aB' _ _ ah];exact R.apk t M F hu V g G
 ·intro t F;have:(Mq.upd y.fl s {y.fl s with kept:=x} t).base=(y.fl t).base:=by rw[aa];split <;> simp_all
  simp only[this];exact R.bs t F
 ·intro t F;by_cases I:t=s
  ·subst I;simp only[Mq.Ql];exact aj
  ·simp only[Mq.Va _ _ I];exact R.kl t F
 ·intro t F;have:(Mq.upd y.fl s {y.fl s with kept:=x} t).held=(y.fl t).held:=by rw[aa];split <;> simp_all
  simp only[this];exact R.hl t F
 ·exact(O.mono (E':=aO' w b z) (fun k _ h=> .inr ⟨s,hs, .inl h⟩)).trans Q (fun k _ h=> .inl h)
 ·rintro k (rfl|⟨t,F,hk|hk⟩)
  ·exact .inl (.inl rfl)
  ·by_cases I:t=s
   ·subst I;rw[bf']at hk;rcases hl k hk with h|h
    ·exact .inl (.inr ⟨t,F, .inl h⟩)
    ·exact .inr h
   ·rw[aB' _ _ I]at hk;exact .inl (.inr ⟨t,F, .inl hk⟩)
  ·exact .inl (.inr ⟨t,F, .inr hk⟩)
theorem mk' (R:Qk p w y H b z) (s:Nat) (hs:s < 3) (F:z10) (aa:(y.fl s).kept.length < 24):
  Calls prog 170 #[.pointer (some ⟨w,0,none⟩), .int .i64 s, .string F] p fun e w'=>e= .returned (.tuple #[])/\aU' p w' w (y.Xi s F) H b z:=by
 obtain⟨c0,c1,c2⟩:=bR' R s hs;have ab:(s:Int) < 3:=by omega
 have I:=m' R;clear R c0 c2;go_enter func170,ntmps170;go_wp2_with (at_builtin;refine cx' rfl (.tmp 16) (.tmp 19) 119 rfl 242 _ 2 24 underlying119 tG' rfl (b s) (y.fl s).kept.length (aK' (y.fl s).kept) (((d' I).kept s hs).keep (fun g Q=>z25 p _ g (((d' I).kept s hs).lt g Q))) rfl ⟨p.heap.size,0,none⟩ 1 1 [.string F, .int .i64 0] rfl rfl aq' (by intro u hu;simp at hu;rcases hu with rfl|rfl <;> rfl) (by omega) (by omega) (by omega) ?_;intro v' w1 G J;rw[<-fB']at G;have V:=(d' I).keptStep s hs (dN' ((z11 _ _).alloc (z13 _) _) J) (gg' ((z11 _ _).alloc (z13 _) _) J) (x:=(y.fl s).kept++[(F,0)]) (by simpa using G) (by simp;omega);obtain⟨⟨C,M,O⟩,hst⟩:=V;have ac:=(y' (i:=5+s * 3+1) M).trans O;have f1:=H' (i:=5+s * 3+1) M;obtain⟨ad,ah,Y,_⟩:=G.shape;have Z:=m' hst;clear J hst M O G;subst Y);refine z77 (z65 rfl _ _ _) rfl ?_;exact⟨rfl,d' Z⟩
def ao' (l:List z10):List Value:=l.map .string
theorem bF' (l:List z10):(ao' l).length=l.length:=by simp[ao']
theorem eF':∀ (l:List (z10×Nat)) (i:Nat) (h:i < l.length),(aK' l)[i * 2]? =some (.string l[i].1)
 |x::l,0,_=>rfl
 |x::l,i+1,h=>by have:=eF' l i (by simpa using h);rw[show(i+1) * 2=i * 2+2 by omega];simpa[aK']using this
theorem eG':∀ (l:List (z10×Nat)) (i:Nat) (h:i < l.length),(aK' l)[i * 2+1]? =some (.int .i64 (l[i].2:Nat))
 |x::l,0,_=>rfl
 |x::l,i+1,h=>by have:=eG' l i (by simpa using h);rw[show(i+1) * 2+1=i * 2+1+2 by omega];simpa[aK']using this
variable{bJ:List (z10×Nat)}
theorem ut' (h:w < bJ.length):ao' ((bJ.take (w+1)).map (·.1))=ao' ((bJ.take w).map (·.1))++[.string bJ[w].1]:=by
 rw[z84 h,z96];unfold ao';rw[z96];rfl
theorem bQ':(prog.info? 9).map (fun i=>(i.zero,i.size,i.bytes))=some (some (.string ⟨#[]⟩),1,16):=by kernel_rfl
theorem pJ' (R:Qk p w y H b z) (hd:H.dead=false) (s:Nat) (hs:s < 3):
  Calls prog 122 #[.pointer (some ⟨w,0,none⟩), .int .i64 s] p fun e w'=>∃v,e= .returned v/\w'.ownsRow p.heap.size 9 1 v (y.Zx s).length (ao' (y.Zx s))/\Below p.heap.size p w':=by
 obtain⟨c0,c1,c2⟩:=bR' R s hs;have c4:=y' (i:=4) R.blk;simp[ai',hd]at c4;obtain⟨aA,cap,I,h1,h2,h3⟩:=(R.kept s hs).shape;rw[I]at c1;have hl:=R.kl s hs;have ac:=z14 R.blk;have J:=(R.kept s hs).lt;rw[I]at J;have ad:Hid (y.Zx s=(y.fl s).kept.map (·.1)):=rfl;have aB:(s:Int) < 3:=by omega
 have aC:¬ (s:Int) < 0:=by omega
 have aD:¬ (3:Int)<=s:=by omega
 clear R I c0 c2 hd;generalize (y.fl s).kept=l at *;have ah:=m' h3;have ai:=m' J;have aj:=m' c1;obtain⟨i0,hi,ak,ao,ap⟩:=au' bQ';clear h3 J c1;go_enter func122,ntmps122;go_wp2;go_loopw[5,6] (fun v i wr=>∃k:Nat,k<=l.length/\i= .int .i64 k/\wr.ownsRow p.heap.size 9 1 v k (ao' ((l.take k).map (·.1)))/\Below p.heap.size p wr) (fun _ i _=>l.length - (intOf i).toNat)
 case atStart=>exact⟨0,z54 _,rfl,z27 _ _ _ _,z11 _ _⟩
 case round=>
  obtain⟨k,hk,rfl,F,hb⟩:=hrel;have c1:=(hb.cell (p:=⟨w,5+s * 3+1,none⟩) ac).trans (d' aj);have Q:=m' F;have G:=m' hb;by_cases V:k < l.length
  ·obtain⟨g,o,rfl,Y⟩:=(d' ah) (by omega);have M:=(hb.cell (p:=⟨g,o+k * 2,none⟩) ((d' ai) g rfl)).trans (Y (k * 2) (by omega));rw[eF' l k V]at M;have Z:=m' (ut' V);clear Y F hb;generalize l[k].1=aq at M Z;go_upto_region 6 with (at_builtin;refine z62 _ rfl (.tmp 32) (.tmp 44) 45 rfl p.heap.size 9 i0 (.string ⟨#[]⟩) 1 16 underlying45 hi ak ao ap rfl (by decide) u5 k (ao' ((l.take k).map (·.1))) rfl ((d' Q).alloc _) ⟨wr.heap.size,0,none⟩ 1 1 [.string aq] rfl rfl aq' (by intro u hu;simp at hu;subst hu;rfl) (by unfold maxLen;omega) (by omega) (by have:=(d' G).size;simp;omega) ?_;intro v' w1 O aa _;have ab:=((d' G).trans (((z11 _ _).alloc (z13 _) _).mono (d' G).size)).trans (Y' (B:=p.heap.size) aa (by have:=(d' G).size;simp;omega) (fun g au=>(z15 (d' Q) g au).1));rw[<-d' Z]at O;have av:=m' O;have ax:=m' ab;clear O aa ab);clear c1 M;go_wp2;go_roundw
   case rel=>exact⟨k+1,by omega,by go_num,d' av,d' ax⟩
   case measure=>simp[intOf];omega
  ·have ay:k=l.length:=(by omega);subst ay;rw[zn']at F;have az:=m' F;clear F hb;go_wp2;go_ret;refine⟨_,rfl,?_,d' G⟩;rw[d' ad,z43];exact d' az
end Go.Proofs.YtamafdcnbcoegaaGreat
