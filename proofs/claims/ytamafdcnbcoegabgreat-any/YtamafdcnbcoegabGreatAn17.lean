/-
  Part 17 of a proof: P2, AN5, AN6.
-/
import Derived.Deep.CutRange
import Derived.ProofKit
import Derived.SizedLaws
import Derived.OpenShut
import Derived.ShutString
import Derived.ChangeOld
import Derived.Deep.Slices
import Derived.Test.YtamafdcnbcoegabGreatAn16
namespace Go.Proofs.YtamafdcnbcoegabGreat
open Go.RowKit
def ag00:Mod.Ag:={ epoch:=1,ticks:=0,welcome:=false,fenced:=false,fl:=fun _ => { base:=0,kept:=[],held:=[] } }
theorem kn_is:kn0=agSubmits (agSubmits ag00 1 ⟨#[120]⟩) 1 ⟨#[121]⟩:=rfl
theorem kn_x:ag00.refuses 1 (⟨#[120]⟩:ByteArray).size=0:=by decide +kernel
theorem kn_y:(agSubmits ag00 1 ⟨#[120]⟩).refuses 1 (⟨#[121]⟩:ByteArray).size=0:=by decide +kernel
theorem kn_logs:skLogs (exN kn0 sk00 3).2 1 = [⟨#[120]⟩,⟨#[121]⟩]:=by decide +kernel
theorem ends_start {top:Nat} {C:AgentC top} {D:SinkC} {w x1 x2:World} {va vs:Nat} {U V:Nat→Prop} (a1:C.At x1 va ag00 U) (a2:Below w.heap.size w x1) (a3:∀ j,U j→w.heap.size ≤ j) (s1:D.At x2 vs sk00 V) (s2:Below x1.heap.size x1 x2) (s3:∀ j,V j→x1.heap.size ≤ j) :
  Ends C D w.heap.size 0 x2 va vs ag00 sk00 (fun _ => False)∧Below w.heap.size w x2:=by
 have hw1:=a2.size
 have hw2:=s2.size
 have hUl:=C.lt a1
 exact ⟨⟨⟨U,V,C.far a1 (E:=fun _ => False) (far_below s2) (fun _ _ e => e),s1,fun j hj e => by have:=hUl j hj;have:=s3 j e;omega,a3,fun j hj => Nat.le_trans hw1 (s3 j hj),fun j hj => hj.elim⟩,agGood_zero 0,skGood_new,by omega⟩,a2.trans (s2.mono hw1)⟩
theorem keepAgent_00 {top:Nat} (C:AgentC top) (w:World) :
  Calls Tryz.prog 33 #[] w fun r y => ∃ v U,r = .returned (ptrTo v)∧C.At y v ag00 U∧Below w.heap.size w y∧∀ j,U j→w.heap.size ≤ j:=keepAgent_any C w
theorem keepSink_00 (D:SinkC) (w:World) :
  Calls Tryz.prog 34 #[] w fun r y => ∃ v U,r = .returned (ptrTo v)∧D.At y v sk00 U∧Below w.heap.size w y∧∀ j,U j→w.heap.size ≤ j:=keepSink_any D w
def OutL (B:Nat) (w:World) (v:Value) (l:List ByteArray):Prop:=∃ ad cap,v = .slice ad l.length cap∧l.length ≤ cap∧cap ≤ maxLen∧(0 < l.length→∃ g o,ad=some ⟨g,o,none⟩∧B ≤ g∧g < w.heap.size∧∀ i,i < l.length→w.cell? ⟨g,o+i,none⟩=(strs l)[i]?)
theorem outL {B:Nat} {w:World} {v:Value} {l:List ByteArray} (h:w.ownsRow B 9 1 v l.length (strs l)):OutL B w v l:=by
 have hl:=listAt_own h
 obtain ⟨ad,cap,e,h1,h2,h3⟩:=hl
 rw [strs_length] at e h1 h3
 refine ⟨ad,cap,e,h1,h2,fun h0 => ?_⟩
 obtain ⟨g,o,e2,h4,h5⟩:=h3 h0
 have:=World.ownsRow.lt h g (by rw [e,e2];rfl)
 exact ⟨g,o,e2,this.1,h4,fun i hi => h5 i hi⟩
theorem OutL.far {B:Nat} {x y:World} {v:Value} {l:List ByteArray} {E:Nat→Prop} (h:OutL B x v l) (hF:Far E x y) (hE:∀ j,B ≤ j→j < x.heap.size→¬ E j):OutL B y v l:=by
 obtain ⟨ad,cap,e,h1,h2,h3⟩:=h
 refine ⟨ad,cap,e,h1,h2,fun h0 => ?_⟩
 obtain ⟨g,o,e2,h4,h5,h6⟩:=h3 h0
 exact ⟨g,o,e2,h4,Nat.lt_of_lt_of_le h5 hF.size,fun i hi => by rw [← h6 i hi];unfold World.cell?;simp only [hF.rest g h5 (hE g h4 h5)]⟩
set_option maxRecDepth 100000 in
set_option maxHeartbeats 4000000 in
theorem known_any {top:Nat} (C:AgentC top) (D:SinkC) (ht:1000 ≤ top) (w:World) :
  Calls Tryz.prog 20 #[] w fun r y => r = .returned (.bool true)∧Below w.heap.size w y:=by
 go_enter Tryz.func20,Tryz.ntmps20
 go_upto_region 2 with (go_at_call 33;refine (keepAgent_00 C _).mono ?_;rintro r x1 ⟨va,U,rfl,k1,k2,k3⟩;have HA:=hide (And.intro k1 (And.intro k2 k3));clear k1 k2 k3)
 go_upto_region 3 with (go_at_call 34;refine (keepSink_00 D _).mono ?_;rintro r x2 ⟨vs,V,rfl,k1,k2,k3⟩;have HS:=hide (And.intro k1 (And.intro k2 k3));clear k1 k2 k3)
 unfold ptrTo at *
 have HE:=hide (ends_start (unhide HA).1 (unhide HA).2.1 (unhide HA).2.2 (unhide HS).1 (unhide HS).2.1 (unhide HS).2.2)
 clear HA HS
 have H1:=(unhide HE).1.submit (by omega) 1 ⟨#[120]⟩
 rw [kn_x] at H1
 replace H1:=hide H1
 unfold ptrTo at H1
 go_upto_region 6 with (go_at_call 22;refine (unhide H1).mono ?_;rintro r y1 ⟨rfl,k1,k2⟩;have HE1:=hide (And.intro k1 ((unhide HE).2.trans (k2.bel (unhide HE).1.bx)));clear k1 k2)
 clear HE H1
 have H2:=(unhide HE1).1.submit (by omega) 1 ⟨#[121]⟩
 rw [kn_y,← kn_is] at H2
 replace H2:=hide H2
 unfold ptrTo at H2
 go_upto_region 7 with (go_at_call 22;refine (unhide H2).mono ?_;rintro r y2 ⟨rfl,k1,k2⟩;have HE2:=hide (And.intro k1 ((unhide HE1).2.trans (k2.bel (unhide HE1).1.bx)));clear k1 k2)
 clear HE1 H2
 have HOK:=hide kn_ok
 have HLG:=hide kn_logs
 have HSP:=hide kn_spool
 have HRF:=hide kn_ref
 have HMO:=hide kn_more
 have hz:exN kn0 sk00 0=(kn0,sk00):=rfl
 have hs:=exN_succ kn0 sk00
 generalize exN kn0 sk00=A4 at HOK HLG HSP HRF HMO hz hs
 have HZ:=hide hz
 have HN4:=hide hs
 clear hz hs
 go_wp2
 go_loopw [5,6,7] (fun i _ _ wr => ∃ t:Nat,t ≤ 3∧i = .int .i64 t∧Ends C D w.heap.size (2+t) wr va vs (A4 t).1 (A4 t).2 (fun _ => False)∧Below w.heap.size w wr) (fun i _ _ _ => 3 - (intOf i).toNat)
 case atStart =>
  refine ⟨0,by omega,rfl,?_,(unhide HE2).2⟩
  rw [unhide HZ]
  exact (unhide HE2).1
 case round =>
  obtain ⟨t4,ht4,rfl,hE,hB⟩:=hrel
  clear HE2
  by_cases hlt4:t4 < 3
  ·have hji:(t4:Int) < 3:=by omega
   have HX0:=exchange_any C D w.heap.size (2+t4) _ va vs _ _ _ hE (by omega)
   rw [(unhide HOK) t4 hlt4] at HX0
   have e4:=(unhide HN4) t4
   have e1:(exchM (A4 t4).1 (A4 t4).2).1=(A4 (t4+1)).1:=by rw [e4]
   have e2:(exchM (A4 t4).1 (A4 t4).2).2.1=(A4 (t4+1)).2:=by rw [e4]
   rw [e1,e2] at HX0
   clear e4 e1 e2
   generalize (((A4 t4).1.tick.2.length:Nat):Int)=nx at HX0
   have HX:=hide HX0
   have HBX:=hide hE.bx
   have HB:=hide hB
   unfold ptrTo at HX
   clear hE hB HX0
   go_wp2_with (go_at_call 48;refine (unhide HX).mono ?_;rintro r y7 ⟨rfl,k1,k2⟩;have HE7:=hide k1;have HS7:=hide k2;clear k1 k2)
   go_roundw
   case rel => exact ⟨t4+1,by omega,by go_num,unhide HE7,(unhide HB).trans ((unhide HS7).bel (unhide HBX))⟩
   case measure => simp [intOf];omega
  ·have ht43:t4=3:=by omega
   subst ht43
   have hji:¬ ((3:Nat):Int) < 3:=by omega
   have HL0:=hE.log 1
   have hlg:skLogs (A4 3).2 1 = [⟨#[120]⟩,⟨#[121]⟩]:=unhide HLG
   rw [hlg] at HL0
   have HL:=hide HL0
   have HB:=hide hB
   have HE:=hide hE
   unfold ptrTo at HL
   clear hE hB HL0 hlg
   go_upto_region 14 with (go_at_call 17;refine (unhide HL).mono ?_;rintro r z1 ⟨lv1,rfl,k1,k2,k3⟩;have HO1:=hide (outL k1);have HE1:=hide (And.intro k2 ((unhide HB).trans (k3.mono (unhide HB).size)));clear k1 k2 k3)
   have HL0:=(unhide HE1).1.spool 1
   have hlg:agSpools (A4 3).1 1 = []:=unhide HSP
   rw [hlg] at HL0
   have HK:=hide HL0
   unfold ptrTo at HK
   clear HL0 hlg HE HL
   go_upto_region 15 with (go_at_call 18;refine (unhide HK).mono ?_;rintro r z2 ⟨lv2,rfl,k1,k2,k3⟩;have HO2:=hide (outL k1);have HE2:=hide (And.intro k2 ((unhide HE1).2.trans (k3.mono (unhide HE1).2.size)));have HF2:=hide k3;clear k1 k2 k3)
   have HU0:=(unhide HE2).1.submit (by omega) 1 ⟨#[122]⟩
   have hr0:(A4 3).1.refuses 1 (⟨#[122]⟩:ByteArray).size=0:=unhide HRF
   rw [hr0] at HU0
   have HU:=hide HU0
   unfold ptrTo at HU
   clear HU0 hr0 HE1 HK
   go_upto_region 16 with (go_at_call 22;refine (unhide HU).mono ?_;rintro r z3 ⟨rfl,k1,k2⟩;have HE3:=hide (And.intro k1 ((unhide HE2).2.trans (k2.bel (unhide HE2).1.bx)));have HF3:=hide k2;clear k1 k2)
   have HL0:=(unhide HE3).1.spool 1
   have hlg:agSpools (agSubmits (A4 3).1 1 ⟨#[122]⟩) 1 = [⟨#[122]⟩]:=unhide HMO
   rw [hlg] at HL0
   have HK:=hide HL0
   unfold ptrTo at HK
   clear HL0 hlg HU
   go_upto_region 17 with (go_at_call 18;refine (unhide HK).mono ?_;rintro r z4 ⟨lv4,rfl,k1,k2,k3⟩;have HO4:=hide (outL k1);have HB4:=hide ((unhide HE3).2.trans (k3.mono (unhide HE3).2.size));have HF4:=hide k3;clear k1 k2 k3)
   have o1:=(unhide HO1).far (far_below (unhide HF2)) (fun _ _ _ e => e)
   have o1:=o1.far (unhide HF3) (fun j h1 h2 e => e.2 (by
    by_cases hj:j < z1.heap.size
    ·exact .inl (.inr ⟨h1,hj⟩)
    ·exact .inr ⟨by omega,h2⟩))
   have o1:=o1.far (far_below (unhide HF4)) (fun _ _ _ e => e)
   obtain ⟨ad1,cap1,rfl,l1,m1,n1⟩:=o1
   obtain ⟨g1,p1,rfl,_,_,n1⟩:=n1 (by decide)
   have c0:z4.cell? ⟨g1,p1,none⟩=some (.string ⟨#[120]⟩):=n1 0 (by decide)
   have c1:z4.cell? ⟨g1,p1+1,none⟩=some (.string ⟨#[121]⟩):=n1 1 (by decide)
   obtain ⟨ad2,cap2,rfl,l2,m2,_⟩:=unhide HO2
   obtain ⟨ad4,cap4,rfl,l4,m4,n4⟩:=unhide HO4
   obtain ⟨g4,p4,rfl,_,_,n4⟩:=n4 (by decide)
   have c4:z4.cell? ⟨g4,p4,none⟩=some (.string ⟨#[122]⟩):=n4 0 (by decide)
   clear n1 n4 HO1 HO2 HO4 HF2 HF3 HF4 HE2 HE3
   simp only [List.length_cons,List.length_nil,Nat.zero_add] at *
   go_wp2
   go_ret
   exact ⟨rfl,unhide HB4⟩
end Go.Proofs.YtamafdcnbcoegabGreat
namespace Go.Proofs.YtamafdcnbcoegabGreat
open Go.RowKit
set_option maxRecDepth 100000 in
set_option maxHeartbeats 64000000 in
theorem any_any {top:Nat} (C:AgentC top) (D:SinkC) (ht:1000 ≤ top) (ad1 ad2:Option Addr) (n1 n2 c1 c2:Nat) (L1 L2:List UInt8) (w:World) (h1:BytesAt w (.slice ad1 n1 c1) L1) (h2:BytesAt w (.slice ad2 n2 c2) L2) :
  Calls Tryz.prog 4 #[.slice ad1 n1 c1,.slice ad2 n2 c2] w fun r y => r = .returned (.bool true)∧Below w.heap.size w y:=by
 have hn1:n1=L1.length:=by obtain ⟨_,_,e,_⟩:=h1;injection e
 have hn2:n2=L2.length:=by obtain ⟨_,_,e,_⟩:=h2;injection e
 have H1:=hide h1
 have H2:=hide h2
 have HN2:=hide hn2
 have HN1:=hide hn1
 clear h1 h2 hn2 hn1
 go_enter Tryz.func4,Tryz.ntmps4
 go_upto_region 2 with (go_at_call 20;refine (known_any C D ht _).mono ?_;rintro r x1 ⟨rfl,k1⟩;have HB1:=hide k1;clear k1)
 rcases cyOpen_case L1 with hR | ⟨h,at',rs,l,q1,q2,q3,q4,q5⟩
 ·have HC:=hide (hR x1 _ (BytesAt.below (unhide H1) (unhide HB1)))
  clear hR
  go_upto_region 5 with (go_at_call 21;refine (unhide HC).mono ?_;rintro r x2 ⟨rfl,k1⟩;have HB2:=hide ((unhide HB1).trans (k1.mono (unhide HB1).size));clear k1)
  clear HC HB1
  have hn2:=unhide HN2
  rcases cxOpen_case L2 with hR | ⟨h',at2,rs2,lg,q1,q2,q3,q5⟩
  ·have HC:=hide (hR x2 _ (BytesAt.below (unhide H2) (unhide HB2)))
   clear hR hn2
   go_wp2_with (go_at_call 25;refine (unhide HC).mono ?_;rintro r z1 ⟨rfl,k1⟩;have HZ1:=hide ((unhide HB2).trans (k1.mono (unhide HB2).size));clear k1)
   go_ret
   exact ⟨rfl,unhide HZ1⟩
  ·rw [q1] at hn2
   subst hn2
   clear q1 q2 q3
   generalize h'.o+1=op2 at q5
   generalize h'.a=ep at q5
   have HC:=hide (q5 x2 _ (BytesAt.below (unhide H2) (unhide HB2)))
   clear q5 at2 rs2
   unfold ptrTo at HC
   go_upto_region 31 with (go_at_call 25;refine (unhide HC).mono ?_;rintro r z1 ⟨vs,V,rfl,k0,k1,k2⟩;have HS1:Hid (AnyS w.heap.size 0 0 op2 1 z1 vs { epoch:=ep,logs:=lg,held:=[] }):=hide ⟨V,k0,fun k hk => ⟨Nat.le_trans (unhide HB2).size (k2 k hk),.inr (Nat.zero_le _)⟩⟩;have HZ1:=hide ((unhide HB2).trans (k1.mono (unhide HB2).size));clear k0 k1 k2)
   clear HC HB2
   go_wp2
   go_loopw [18,19] (fun nv i wr => ∃ k:Nat,k ≤ 3∧i = .int .i64 k∧nv = .int .i64 (spN (skLogs { epoch:=ep,logs:=lg,held:=[] }) k:Nat)∧AnyS w.heap.size 0 0 op2 1 wr vs { epoch:=ep,logs:=lg,held:=[] } ∧ Below w.heap.size w wr) (fun _ i _ => 3 - (intOf i).toNat)
   case atStart => exact ⟨0,by omega,rfl,rfl,unhide HS1,unhide HZ1⟩
   case round =>
    obtain ⟨k,hk,rfl,rfl,hS,hB⟩:=hrel
    have hroom:spN (skLogs { epoch:=ep,logs:=lg,held:=[] }) 3 ≤ 120:=by rw [spN_sk];exact hS.good.room
    have hle:=spN_le (skLogs { epoch:=ep,logs:=lg,held:=[] }) hk
    have HS:=hide hS
    have HB:=hide hB
    clear hS hB HS1 HZ1
    by_cases hlt:k < 3
    ·have hki:(k:Int) < 3:=by omega
     have hk0:(0:Int) ≤ (k:Int):=by omega
     have hsp:=(unhide HS).log (k:Int)
     have hnx:spN (skLogs { epoch:=ep,logs:=lg,held:=[] }) (k+1)=spN (skLogs { epoch:=ep,logs:=lg,held:=[] }) k+(skLogs { epoch:=ep,logs:=lg,held:=[] } k).length:=rfl
     have hle2:=spN_le (skLogs { epoch:=ep,logs:=lg,held:=[] }) (k:=k+1) (by omega)
     obtain ⟨s,hs⟩:∃ s,s=spN (skLogs { epoch:=ep,logs:=lg,held:=[] }) k:=⟨_,rfl⟩
     obtain ⟨m,hm⟩:∃ m,m=(skLogs { epoch:=ep,logs:=lg,held:=[] } k).length:=⟨_,rfl⟩
     rw [← hs] at hnx ⊢
     rw [← hm] at hsp hnx
     have hbd:s+m ≤ 120:=by omega
     have HK:=hide (And.intro hlt (And.intro hnx hbd))
     have HSP:=hide hsp
     clear hsp hnx hle hle2 hs hm hroom hlt hk
     unfold ptrTo at HSP
     have hwr:IntKind.i64.wrap ((s:Int)+(m:Int))=((s+m:Nat):Int):=by rw [IntKind.wrap_i64];omega
     go_upto_region 40 with (go_at_call 17;refine (unhide HSP).mono ?_;rintro r y ⟨lv,rfl,ho,hy⟩;have HSy:=hide ((unhide HS).below hy);have HBy:=hide ((unhide HB).trans (hy.mono (unhide HB).size));obtain ⟨lad,lcap,rfl,_⟩:=(own_rowO ho).shape;clear ho hy)
     go_wp2
     go_roundw
     case rel => exact ⟨k+1,by have:=(unhide HK).1;omega,by go_num,by rw [(unhide HK).2.1,Int.natCast_add],unhide HSy,unhide HBy⟩
     case measure => have:=(unhide HK).1;simp [intOf];omega
    ·obtain rfl:k=3:=by omega
     have hlg:skLogs { epoch:=ep,logs:=lg,held:=[] } 1=lg 1:=by simp [skLogs]
     have hsp:=(unhide HS).log 1
     rw [hlg] at hsp
     obtain ⟨R,hR⟩:∃ R,R=spN (skLogs { epoch:=ep,logs:=lg,held:=[] }) 3:=⟨_,rfl⟩
     have hmR:(lg 1).length ≤ R:=by rw [hR];exact spN_one lg ep
     rw [← hR] at hroom ⊢
     obtain ⟨m,hm⟩:∃ m,m=(lg 1).length:=⟨_,rfl⟩
     obtain ⟨xs,hxs⟩:∃ xs,xs=strs (lg 1):=⟨_,rfl⟩
     have hxl:xs.length=m:=by rw [hxs,strs_length,hm]
     rw [← hm] at hsp hmR
     rw [← hxs] at hsp
     have HSP:=hide hsp
     have HXS:=hide hxs
     have HM:=hide hm
     have HRR:=hide hR
     clear hsp hxs hm hR hlg hle hlt hk
     unfold ptrTo at HSP
     have hgt:¬ (120:Int) < (R:Int):=by omega
     go_upto_region 42 with (go_at_call 17;refine (unhide HSP).mono ?_;rintro r z2 ⟨lv,rfl,ho,hy⟩;have HS2:=hide (((unhide HS).gap z2.heap.size).below hy);have HWQ:=hide (unhide HB).size;have HB2:=hide ((unhide HB).trans (hy.mono (unhide HB).size));obtain ⟨lad,lcap,rfl,_⟩:=(own_rowO ho).shape;have HL2:=hide ho;clear ho hy)
     clear HSP HS HB
     go_upto_region 44 with fail
     have hE:=(unhide HS2).epoch
     have HE1:Hid (Calls Tryz.prog 27 #[.pointer (some ⟨vs,0,none⟩)] z2 fun r y => r = .returned (.int .i64 ep)∧y=z2):=hide hE
     clear hE
     have hmw:IntKind.i64.wrap ((m:Int)+1)=(m:Int)+1:=by rw [IntKind.wrap_i64];omega
     obtain ⟨BL,hBL⟩:∃ BL,BL=Wire.bytes 3 ep (1:Nat) (m+1:Nat) newB.data.toList:=⟨_,rfl⟩
     have hep:ep ≤ 2147483647:=(unhide HS2).good.ep
     have HE:∀ y,Hid (Calls Tryz.prog 26 #[.agg #[.int .i64 3,.int .i64 ep,.int .i64 1,.int .i64 ((m:Int)+1),.string ⟨#[110,101,119]⟩]] y fun r w' => ∃ v,r = .returned (.tuple #[v,.int .i64 0])∧Owns (y.heap.size+1) w' v BL∧Below y.heap.size y w'):=fun y => by
      have e:((m:Int)+1)=((m+1:Nat):Int):=by omega
      rw [e,hBL]
      exact courier_Encode_yes 3 ep (1:Nat) (m+1:Nat) newB y (new_proper hep (by omega) (by omega))
     have HBL:=hide hBL
     have HRM:=hide (And.intro hroom hmR)
     clear hBL hep hroom hmR
     go_upto_region 45 with (first
      | (go_at_call 27;refine (unhide HE1).mono ?_;rintro r y ⟨rfl,hyz⟩;obtain rfl:z2=y:=hyz.symm)
      | (go_at_call 26;refine (unhide (HE _)).mono ?_;rintro r z3 ⟨bv,rfl,ho,hy⟩;have HS3:=hide ((unhide HS2).below hy);have HB3:=hide ((unhide HB2).trans (hy.mono (unhide HB2).size));have HL3:=hide (ownsRow_keepB (unhide HL2) (fun g hg => hy.block g (World.ownsRow.lt (unhide HL2) g hg).2));have HZZ:=hide hy.size;have HOB:=hide (Owns.at ho);obtain ⟨bad,bcap,rfl,_⟩:=ho.shape;clear ho hy))
     obtain ⟨a2,e1,e2,hdl⟩:=(unhide HS3).next (q:=m+1) (by rw [unhide HM]) (by have:=unhide HRM;omega) _ (by rw [← unhide HBL];exact unhide HOB) (by omega) (unhide HZZ) (unhide HB3).size
     rw [← unhide HRR] at e2
     have HDL:=hide hdl
     have HA2:=hide (And.intro e1 e2)
     clear hdl e1 e2 HE1 HE HOB HBL HS2 HB2
     unfold ptrTo at HDL
     generalize BL.length=bl at HDL ⊢
     go_upto_region 46 with (go_at_call 15;refine (unhide HDL).mono ?_;rintro r z4 ⟨lv,rfl,⟨dad,dn,dcap,rfl⟩,⟨ct2,k1⟩,k2⟩;have HS4:=hide k1;have HB4:=hide ((unhide HB3).trans (k2.below (unhide HB3).size (fun k hk e => by omega)));have HL4:=hide (ownsRow_keepB (unhide HL3) (fun g hg => k2.rest g (World.ownsRow.lt (unhide HL3) g hg).2 (fun e => by have h1:=(World.ownsRow.lt (unhide HL2) g hg);omega)));clear k1 k2)
     clear HDL HS3 HB3 HL3
     obtain ⟨bq,hbq⟩:∃ bq,decide ((R:Int) < 120)=bq:=⟨_,rfl⟩
     go_upto_if 173 with fail
     go_cut [21] from 174 to 176 (fun lv wx => ∃ (ad:Option Addr) (n cap:Nat),lv = .slice ad n cap∧n=(a2.logs 1).length∧wx.ownsRow 0 9 1 (.slice ad n cap) n (strs (a2.logs 1))∧AnyS w.heap.size wr.heap.size z2.heap.size op2 ct2 wx vs a2∧Below w.heap.size w wx)
     case first =>
      cases bq with
      | true =>
       have hfull:R < 120:=by have:=of_decide_eq_true hbq;omega
       clear hbq
       rw [if_pos hfull] at HA2
       have HROW:=hide (ownsRow_monoB (unhide HL4) (Nat.zero_le _))
       have HMS:Hid (m ≤ 120):=hide (by have:=unhide HRM;omega)
       have hms:m ≤ 120:=unhide HMS
       go_wp2_with (at_builtin;refine wpList_app1 rfl (.tmp 174) (.tmp 175) 33 rfl 9 _ 16 Tryz.underlying33 infoStr rfl (.slice lad m lcap) xs (by rw [hxl];exact World.ownsRow.alloc (unhide HROW) _) rfl ⟨z4.heap.size,0,none⟩ (.string ⟨#[110,101,119]⟩) rfl (by simp) rfl (by omega) (by omega) ?_;intro v' z5 hown' _ happ;have HAPP:=hide happ;have HOWN:=hide hown';obtain ⟨ad5,cap5,rfl,_⟩:=(own_rowO hown').shape;clear happ hown')
       go_meet
       obtain ⟨f1,f2⟩:=any_app (b:=0) (fun q _ => Nat.zero_le _) (unhide HAPP)
       have hown:=unhide HOWN
       have hxe:xs ++ [Value.string ⟨#[110,101,119]⟩] = strs (a2.logs 1):=by rw [(unhide HA2).2,unhide HXS];simp [strs,newB]
       have hln:(xs ++ [Value.string ⟨#[110,101,119]⟩]).length=m+1:=by rw [List.length_append,hxl];rfl
       rw [hln] at hown
       rw [hxe] at hown
       first | rw [hln] | skip
       refine ⟨ad5,m+1,cap5,rfl,by rw [(unhide HA2).2,List.length_append,unhide HM];rfl,hown,(unhide HS4).write f1 (fun k hk => World.ownsRow.lt (unhide HL2) k hk),(unhide HB4).trans (f1.below (unhide HB4).size (fun k hk e => by have:=(World.ownsRow.lt (unhide HL2) k e).1;have:=unhide HWQ;omega))⟩
      | false =>
       have hfull:¬ R < 120:=by have:=of_decide_eq_false hbq;omega
       clear hbq
       rw [if_neg hfull] at HA2
       go_wp2
       go_meet
       have hown:=ownsRow_monoB (unhide HL4) (Nat.zero_le _)
       have hxe:xs=strs (a2.logs 1):=by rw [(unhide HA2).2,unhide HXS]
       rw [hxe] at hown
       exact ⟨lad,m,lcap,rfl,by rw [(unhide HA2).2,unhide HM],hown,unhide HS4,unhide HB4⟩
     case rest =>
      clear hbq
      obtain ⟨ad5,mm,cap5,rfl,hml,hown,hS5,hB5⟩:=hcut
      have HML:=hide hml
      have HO5:=hide hown
      have HS5:=hide hS5
      have HB5:=hide hB5
      have HMM:Hid (mm ≤ 1000000000):=hide (by rw [unhide HML,(unhide HA2).2];have h1:=unhide HRM;have h2:=unhide HM;split <;> first | omega | (rw [List.length_append];simp;omega))
      clear hml hown hS5 hB5 HS4 HB4 HL4
      obtain ⟨IL,ic,ih,iD,iI⟩:=(unhide HS5).img
      have HIA:=hide (iI wc (Below.refl _ _) 0)
      unfold ptrTo at HIA
      clear iI
      rcases cxAgain_case iD with hR | ⟨op3,hO⟩
      ·clear iD
       have HRF:=hide hR
       clear hR
       go_upto_region 51 with (first
        | (go_at_call 28;refine (unhide HIA).mono ?_;rintro r z6 ⟨iv,rfl,ho,hy⟩;have HB6:=hide ((unhide HB5).trans (hy.mono (unhide HB5).size));have HOPN:=hide ((unhide HRF) z6 iv (Owns.at ho));obtain ⟨iad,icap,rfl,_⟩:=ho.shape;generalize IL.length=ilen at HOPN ⊢;clear ho hy)
        | (go_at_call 25;refine (unhide HOPN).mono ?_;rintro r z7 ⟨rfl,k1⟩;have HB7:=hide ((unhide HB6).trans (k1.mono (unhide HB6).size));clear k1))
       go_wp2
       go_ret
       exact ⟨rfl,unhide HB7⟩
      ·clear iD
       have HRF:=hide hO
       clear hO
       unfold ptrTo at HRF
       go_upto_region 51 with (first
        | (go_at_call 28;refine (unhide HIA).mono ?_;rintro r z6 ⟨iv,rfl,ho,hy⟩;have HB6:=hide ((unhide HB5).trans (hy.mono (unhide HB5).size));have HS6:=hide ((unhide HS5).below hy);have HO6:=hide (ownsRow_keepB (unhide HO5) (fun g hg => hy.block g (World.ownsRow.lt (unhide HO5) g hg).2));have HOPN:=hide ((unhide HRF) z6 iv (Owns.at ho));obtain ⟨iad,icap,rfl,_⟩:=ho.shape;generalize IL.length=ilen at HOPN ⊢;clear ho hy)
        | (go_at_call 25;refine (unhide HOPN).mono ?_;rintro r z7 ⟨vt,V2,rfl,k0,k1,k2⟩;have HT7:Hid (AnyS w.heap.size 0 0 op3 1 z7 vt { epoch:=a2.epoch,logs:=a2.logs,held:=[] }):=hide ⟨V2,k0,fun k hk => ⟨Nat.le_trans (unhide HB6).size (k2 k hk),.inr (Nat.zero_le _)⟩⟩;have HB7:=hide ((unhide HB6).trans (k1.mono (unhide HB6).size));have HS7:=hide ((unhide HS6).below k1);have HO7:=hide (ownsRow_keepB (unhide HO6) (fun g hg => k1.block g (World.ownsRow.lt (unhide HO6) g hg).2));clear k0 k1 k2))
       clear HOPN HIA HS6 HO6 HB6 HS5 HO5 HB5
       have hsp:=(unhide HT7).log 1
       have hlg:skLogs { epoch:=a2.epoch,logs:=a2.logs,held:=[] } 1=a2.logs 1:=by simp [skLogs]
       rw [hlg,← unhide HML] at hsp
       have HSP:=hide hsp
       clear hsp hlg
       unfold ptrTo at HSP
       go_upto_region 56 with (go_at_call 17;refine (unhide HSP).mono ?_;rintro r z8 ⟨lv,rfl,ho,hy⟩;have HT8:=hide ((unhide HT7).below hy);have HS8:=hide ((unhide HS7).below hy);have HB8:=hide ((unhide HB7).trans (hy.mono (unhide HB7).size));have HO8:=hide (ownsRow_keepB (unhide HO7) (fun g hg => hy.block g (World.ownsRow.lt (unhide HO7) g hg).2));obtain ⟨gad,gcap,rfl,_⟩:=(own_rowO ho).shape;have HG8:=hide ho;clear ho hy)
       clear HSP HT7 HS7 HB7 HO7
       have hSM:Calls Tryz.prog 19 #[.slice ad5 mm cap5,.slice gad mm gcap] z8 fun r y => r = .returned (.bool true)∧∃ q,y=z8.drewN q:=by
        have:=keepSame_any z8 (.slice ad5 mm cap5) (.slice gad mm gcap) (a2.logs 1) (a2.logs 1) (listAt_len (unhide HO8) (unhide HML)) (listAt_len (unhide HG8) (unhide HML)) (by rw [← unhide HML];exact unhide HMM)
        simpa using this
       have HSM:=hide hSM
       clear hSM
       go_upto_region 57 with (go_at_call 19;refine (unhide HSM).mono ?_;rintro r z9 ⟨rfl,q9,rfl⟩;have HT9:=hide ((unhide HT8).below (below_drewN (Below.refl _ _) q9));have HS9:=hide ((unhide HS8).below (below_drewN (Below.refl _ _) q9));have HB9:=hide (below_drewN (unhide HB8) q9))
       clear HSM HT8 HS8 HB8 HO8 HG8
       have hE1:=(unhide HT9).epoch
       have hE2:=(unhide HS9).epoch
       obtain ⟨E,hEE⟩:∃ E,E=a2.epoch:=⟨_,rfl⟩
       rw [← hEE] at hE2
       have hE3:Calls Tryz.prog 27 #[ptrTo vt] (z8.drewN q9) fun r y => r = .returned (.int .i64 E)∧y=z8.drewN q9:=by rw [hEE];exact hE1
       have HE2:=hide hE2
       have HE3:=hide hE3
       clear hE1 hE2 hE3 hEE
       unfold ptrTo at HE2 HE3
       go_wp2_with (first
        | (go_at_call 27;refine (unhide HE3).mono ?_;rintro r y ⟨rfl,rfl⟩)
        | (go_at_call 27;refine (unhide HE2).mono ?_;rintro r y ⟨rfl,rfl⟩))
       go_ret
       exact ⟨rfl,unhide HB9⟩
 ·obtain ⟨g1,g2⟩:=Mod.opened_small q2 q4
  have hepo:(Mod.agOf h.o h.num l).epoch=h.o+1:=rfl
  clear q2 q3 q4
  generalize Mod.agOf h.o h.num l=a at q5 g1 g2 hepo
  rw [hepo] at g1
  generalize h.o+1=op at q5 g1
  have hn1:=unhide HN1
  rw [q1] at hn1
  subst hn1
  have HC:=hide (q5 x1 _ (BytesAt.below (unhide H1) (unhide HB1)))
  have HOP:=hide g1
  have HG:=hide g2
  clear q1 q5 g1 g2 hepo h at' rs l
  unfold ptrTo at HC
  go_upto_region 5 with (go_at_call 21;refine (unhide HC).mono ?_;rintro r x2 ⟨va,U,rfl,k0,k1,k2⟩;have HA2:Hid (AnyA w.heap.size 0 0 op 1 x2 va a):=hide ⟨U,k0,fun k hk => ⟨Nat.le_trans (unhide HB1).size (k2 k hk),.inr (Nat.zero_le _)⟩⟩;have HB2:=hide ((unhide HB1).trans (k1.mono (unhide HB1).size));clear k0 k1 k2)
  clear HC HB1
  go_upto_if 39 with fail
  go_cut [4,8,9,10,11,12,13,14,15,16] from 38 to 114 (fun _ _ _ _ _ _ _ _ _ _ wx => Below w.heap.size w wx)
  case first =>
   go_wp2
   go_loopw [8,9] (fun nv i wr => ∃ k:Nat,k ≤ 3∧i = .int .i64 k∧nv = .int .i64 (spN (agSpools a) k:Nat)∧AnyA w.heap.size 0 0 op 1 wr va a∧Below w.heap.size w wr) (fun _ i _ => 3 - (intOf i).toNat)
   case atStart => exact ⟨0,by omega,rfl,rfl,unhide HA2,unhide HB2⟩
   case round =>
    obtain ⟨k,hk,rfl,rfl,hA,hB⟩:=hrel
    have hroom:spN (agSpools a) 3 ≤ 24:=by rw [spN_ag];exact hA.room
    have hle:=spN_le (agSpools a) hk
    have HA:=hide hA
    have HB:=hide hB
    clear hA hB HA2 HB2
    by_cases hlt:k < 3
    ·have hki:(k:Int) < 3:=by omega
     have hk0:(0:Int) ≤ (k:Int):=by omega
     have hsp:=(unhide HA).spool (k:Int)
     have hnx:spN (agSpools a) (k+1)=spN (agSpools a) k+(agSpools a k).length:=rfl
     have hle2:=spN_le (agSpools a) (k:=k+1) (by omega)
     obtain ⟨s,hs⟩:∃ s,s=spN (agSpools a) k:=⟨_,rfl⟩
     obtain ⟨m,hm⟩:∃ m,m=(agSpools a k).length:=⟨_,rfl⟩
     rw [← hs] at hnx ⊢
     rw [← hm] at hsp hnx
     have hbd:s+m ≤ 24:=by omega
     have HK:=hide (And.intro hlt (And.intro hnx hbd))
     have HSP:=hide hsp
     clear hsp hnx hle hle2 hs hm hroom hlt hk
     unfold ptrTo at HSP
     have hwr:IntKind.i64.wrap ((s:Int)+(m:Int))=((s+m:Nat):Int):=by rw [IntKind.wrap_i64];omega
     go_upto_region 15 with (go_at_call 18;refine (unhide HSP).mono ?_;rintro r y ⟨lv,rfl,ho,hy⟩;have HAy:=hide ((unhide HA).below hy);have HBy:=hide ((unhide HB).trans (hy.mono (unhide HB).size));obtain ⟨lad,lcap,rfl,_⟩:=(own_rowO ho).shape;clear ho hy)
     go_wp2
     go_roundw
     case rel => exact ⟨k+1,by have:=(unhide HK).1;omega,by go_num,by rw [(unhide HK).2.1,Int.natCast_add],unhide HAy,unhide HBy⟩
     case measure => have:=(unhide HK).1;simp [intOf];omega
    ·obtain rfl:k=3:=by omega
     rw [spN_ag] at hroom hle ⊢
     obtain ⟨s0,s7,sep⟩:=any_submits hroom
     have hsp:=(unhide HA).spool 2
     obtain ⟨m,hm⟩:∃ m,m=(agSpools a 2).length:=⟨_,rfl⟩
     obtain ⟨xs,hxs⟩:∃ xs,xs=strs (agSpools a 2):=⟨_,rfl⟩
     have hxl:xs.length=m:=by rw [hxs,strs_length,hm]
     have hmR:m ≤ 24:=by
      have e:spN (agSpools a) 3=spN (agSpools a) 2+(agSpools a 2).length:=rfl
      rw [spN_ag] at e
      omega
     rw [← hm] at hsp
     rw [← hxs] at hsp
     have HSP:=hide hsp
     have HXS:=hide hxs
     have HM:=hide hm
     clear hsp hxs hm hle hlt hk
     obtain ⟨R,hR⟩:∃ R,R=a.room:=⟨_,rfl⟩
     rw [← hR] at hroom s0 s7 ⊢
     have HBN:Hid (m ≤ 24):=hide hmR
     clear hR
     unfold ptrTo at HSP
     go_upto_region 17 with (go_at_call 18;refine (unhide HSP).mono ?_;rintro r y1 ⟨bv,rfl,ho,hy⟩;have HA1:=hide (((unhide HA).gap y1.heap.size).below hy);have HB1:=hide ((unhide HB).trans (hy.mono (unhide HB).size));have HWR:=hide (unhide HB).size;obtain ⟨bad,bcap,rfl,_⟩:=(own_rowO ho).shape;have HO1:=hide ho;clear ho hy)
     have hsu:=(unhide HA1).submit 2 newB (unhide HG) (by omega) (Nat.le_refl _) (unhide HB1).size
     clear HSP HA HB
     by_cases hr:R < 24
     ·obtain ⟨r0,rs⟩:=s0 hr
      rw [r0] at hsu
      have HSU:Hid (Calls Tryz.prog 22 #[.pointer (some ⟨va,0,none⟩),.int .i64 2,.string ⟨#[110,101,119]⟩] y1 fun r y => r = .returned (.int .i64 0)∧AnyA w.heap.size wr.heap.size y1.heap.size op 2 y va (agSubmits a 2 newB)∧Far (fun k => w.heap.size ≤ k∧(k < wr.heap.size ∨ y1.heap.size ≤ k)) y1 y):=hide hsu
      have HRS:=hide rs
      clear hsu r0 rs s0 s7 sep
      have hg1:¬ (24:Int) < (R:Int):=by omega
      have hg2:((R:Int) == 24)=false:=by simp;omega
      clear hr hroom
      go_upto_region 18 with (go_at_call 22;refine (unhide HSU).mono ?_;rintro r y2 ⟨rfl,k1,k2⟩;have HA2:=hide k1;have HB2:=hide ((unhide HB1).trans (k2.below (unhide HB1).size (fun k hk e => by omega)));have HO2:=hide (ownsRow_keepB (unhide HO1) (fun g hg => k2.rest g (World.ownsRow.lt (unhide HO1) g hg).2 (fun e => by have h1:=World.ownsRow.lt (unhide HO1) g hg;omega)));clear k1 k2)
      clear HSU HA1 HB1
      go_upto_region 21 with fail
      have HROW:=hide (ownsRow_monoB (unhide HO2) (Nat.zero_le _))
      go_upto_region 22 with (at_builtin;refine wpList_app1 rfl (.tmp 79) (.tmp 80) 33 rfl 9 _ 16 Tryz.underlying33 infoStr rfl (.slice bad m bcap) xs (by rw [hxl];exact World.ownsRow.alloc (unhide HROW) _) rfl ⟨y2.heap.size,0,none⟩ (.string ⟨#[110,101,119]⟩) rfl (by simp) rfl (by omega) (by omega) ?_;intro v' y5 hown' _ happ;have HAPP:=hide happ;have HOWN:=hide hown';obtain ⟨ad4,cap4,rfl,_⟩:=(own_rowO hown').shape;clear happ hown')
      obtain ⟨f1,f2⟩:=any_app (b:=0) (fun q _ => Nat.zero_le _) (unhide HAPP)
      have HA5:=hide ((unhide HA2).write f1 (fun k hk => World.ownsRow.lt (unhide HO1) k hk))
      have HB5:=hide ((unhide HB2).trans (f1.below (unhide HB2).size (fun k hk e => by have:=(World.ownsRow.lt (unhide HO1) k e).1;have:=unhide HWR;omega)))
      have hown:=unhide HOWN
      have hxe:xs ++ [Value.string ⟨#[110,101,119]⟩] = strs (agSpools (agSubmits a 2 newB) 2):=by rw [unhide HRS,unhide HXS];simp [strs,newB]
      have hln:(xs ++ [Value.string ⟨#[110,101,119]⟩]).length=m+1:=by rw [List.length_append,hxl];rfl
      rw [hln] at hown
      rw [hxe] at hown
      have HO5:=hide hown
      have HML:Hid ((m+1)=(agSpools (agSubmits a 2 newB) 2).length):=hide (by rw [unhide HRS,List.length_append,unhide HM];rfl)
      clear f1 f2 hown hxe hln HAPP HOWN HROW HA2 HB2 HO2 HO1 HWR HXS HM HRS HG hxl hmR
      obtain ⟨hep,IL,ic,ih,ifr,ipl,iD,iP,iI⟩:=(unhide HA5).img
      have HIA:=hide (iI y5 (Below.refl _ _) 0)
      unfold ptrTo at HIA
      clear iI
      rcases cyAgain_case iD iP hep with hR | hO
      ·clear iD iP hep
       have HRF:=hide hR
       clear hR
       go_upto_region 23 with (first
        | (go_at_call 23;refine (unhide HIA).mono ?_;rintro r y6 ⟨iv,rfl,ho,hy⟩;have HB6:=hide ((unhide HB5).trans (hy.mono (unhide HB5).size));have HOPN:=hide ((unhide HRF) y6 iv (Owns.at ho));obtain ⟨iad,icap,rfl,_⟩:=ho.shape;generalize IL.length=ilen at HOPN ⊢;clear ho hy)
        | (go_at_call 21;refine (unhide HOPN).mono ?_;rintro r y7 ⟨rfl,k1⟩;have HB7:=hide ((unhide HB6).trans (k1.mono (unhide HB6).size));clear k1))
       clear HOPN HIA HRF HB6 HA5 HO5 HB5
       go_wp2
       go_meet
       exact unhide HB7
      ·clear iD iP
       have HRF:=hide hO
       clear hO
       unfold ptrTo at HRF
       go_upto_region 23 with (first
        | (go_at_call 23;refine (unhide HIA).mono ?_;rintro r y6 ⟨iv,rfl,ho,hy⟩;have HB6:=hide ((unhide HB5).trans (hy.mono (unhide HB5).size));have HA6:=hide ((unhide HA5).below hy);have HO6:=hide (ownsRow_keepB (unhide HO5) (fun g hg => hy.block g (World.ownsRow.lt (unhide HO5) g hg).2));have HOPN:=hide ((unhide HRF) y6 iv (Owns.at ho));obtain ⟨iad,icap,rfl,_⟩:=ho.shape;generalize IL.length=ilen at HOPN ⊢;clear ho hy)
        | (go_at_call 21;refine (unhide HOPN).mono ?_;rintro r y7 ⟨vb,V2,rfl,k0,k1,k2⟩;have HQ7:Hid (AnyA w.heap.size 0 0 (op+1) 1 y7 vb (Mod.reop (agSubmits a 2 newB))):=hide ⟨V2,k0,fun k hk => ⟨Nat.le_trans (unhide HB6).size (k2 k hk),.inr (Nat.zero_le _)⟩⟩;have HB7:=hide ((unhide HB6).trans (k1.mono (unhide HB6).size));have HA7:=hide ((unhide HA6).below k1);have HO7:=hide (ownsRow_keepB (unhide HO6) (fun g hg => k1.block g (World.ownsRow.lt (unhide HO6) g hg).2));clear k0 k1 k2))
       clear HOPN HIA HRF HB6 HA6 HO6 HA5 HO5 HB5
       go_upto_region 24 with fail
       have hE1:=(unhide HQ7).epoch
       have hE1':Calls Tryz.prog 24 #[ptrTo vb] y7 fun r y => r = .returned (.int .i64 ((op:Int)+1))∧Below y7.heap.size y7 y:=by
        have e:((Mod.reop (agSubmits a 2 newB)).epoch:Int)=(op:Int)+1:=by
         show (((agSubmits a 2 newB).epoch+1:Nat):Int)=_
         rw [hep]
         omega
        rw [e] at hE1
        exact hE1
       have hE2:=fun y (hy:Below y7.heap.size y7 y) => ((unhide HA7).below hy).epoch
       rw [hep] at hE2
       have HE1:=hide hE1'
       have HE2:=fun y hy => hide (hE2 y hy)
       clear hE1 hE1' hE2
       unfold ptrTo at HE1 HE2
       have how:IntKind.i64.wrap ((op:Int)+1)=(op:Int)+1:=by have:=unhide HOP;rw [IntKind.wrap_i64];omega
       clear hep
       go_upto_region 26 with (first
        | (go_at_call 24;refine (unhide HE1).mono ?_;rintro r y8 ⟨rfl,k1⟩;have HY8:=hide k1;have HQ8:=hide ((unhide HQ7).below k1);have HA8:=hide ((unhide HA7).below k1);have HB8:=hide ((unhide HB7).trans (k1.mono (unhide HB7).size));have HO8:=hide (ownsRow_keepB (unhide HO7) (fun g hg => k1.block g (World.ownsRow.lt (unhide HO7) g hg).2));clear k1)
        | (go_at_call 24;refine (unhide (HE2 y8 (unhide HY8))).mono ?_;rintro r y9 ⟨rfl,k1⟩;have HQ9:=hide ((unhide HQ8).below k1);have HB9:=hide ((unhide HB8).trans (k1.mono (unhide HB8).size));have HO9:=hide (ownsRow_keepB (unhide HO8) (fun g hg => k1.block g (World.ownsRow.lt (unhide HO8) g hg).2));clear k1))
       clear HE1 HE2 HY8 HQ8 HA8 HB8 HO8 HQ7 HA7 HB7 HO7
       have hsp:=(unhide HQ9).spool 2
       have hlg:agSpools (Mod.reop (agSubmits a 2 newB)) 2=agSpools (agSubmits a 2 newB) 2:=by simp [agSpools,Mod.reop,Mod.Ag.spool]
       rw [hlg,← unhide HML] at hsp
       have HSP:=hide hsp
       clear hsp hlg
       unfold ptrTo at HSP
       go_upto_region 27 with (go_at_call 18;refine (unhide HSP).mono ?_;rintro r y10 ⟨lv,rfl,ho,hy⟩;have HB10:=hide ((unhide HB9).trans (hy.mono (unhide HB9).size));have HO10:=hide (ownsRow_keepB (unhide HO9) (fun g hg => hy.block g (World.ownsRow.lt (unhide HO9) g hg).2));obtain ⟨gad,gcap,rfl,_⟩:=(own_rowO ho).shape;have HG10:=hide ho;clear ho hy)
       clear HSP HQ9 HB9 HO9
       have hSM:Calls Tryz.prog 19 #[.slice ad4 (m+1) cap4,.slice gad (m+1) gcap] y10 fun r y => r = .returned (.bool true)∧∃ q,y=y10.drewN q:=by
        have:=keepSame_any y10 (.slice ad4 (m+1) cap4) (.slice gad (m+1) gcap) (agSpools (agSubmits a 2 newB) 2) (agSpools (agSubmits a 2 newB) 2) (listAt_len (unhide HO10) (unhide HML)) (listAt_len (unhide HG10) (unhide HML)) (by rw [← unhide HML];have:=unhide HBN;omega)
        simpa using this
       have HSM:=hide hSM
       clear hSM
       go_upto_region 28 with (go_at_call 19;refine (unhide HSM).mono ?_;rintro r y11 ⟨rfl,q9,rfl⟩;have HB11:=hide (below_drewN (unhide HB10) q9))
       clear HSM HB10 HO10 HG10
       go_wp2
       go_meet
       exact unhide HB11
     ·have hr24:R=24:=by omega
      subst hr24
      obtain ⟨r7,rs⟩:=s7 rfl
      rw [r7] at hsu
      have HSU:Hid (Calls Tryz.prog 22 #[.pointer (some ⟨va,0,none⟩),.int .i64 2,.string ⟨#[110,101,119]⟩] y1 fun r y => r = .returned (.int .i64 7)∧AnyA w.heap.size wr.heap.size y1.heap.size op 2 y va (agSubmits a 2 newB)∧Far (fun k => w.heap.size ≤ k∧(k < wr.heap.size ∨ y1.heap.size ≤ k)) y1 y):=hide hsu
      have HRS:=hide rs
      clear hsu r7 rs s0 s7 sep hr hroom
      go_upto_region 18 with (go_at_call 22;refine (unhide HSU).mono ?_;rintro r y5 ⟨rfl,k1,k2⟩;have HA5:=hide k1;have HB5:=hide ((unhide HB1).trans (k2.below (unhide HB1).size (fun k hk e => by omega)));have HO2:=hide (ownsRow_keepB (unhide HO1) (fun g hg => k2.rest g (World.ownsRow.lt (unhide HO1) g hg).2 (fun e => by have h1:=World.ownsRow.lt (unhide HO1) g hg;omega)));clear k1 k2)
      clear HSU HA1 HB1
      go_upto_region 22 with fail
      have hown:=ownsRow_monoB (unhide HO2) (Nat.zero_le _)
      have hxe:xs=strs (agSpools (agSubmits a 2 newB) 2):=by rw [unhide HRS,unhide HXS]
      rw [hxe] at hown
      have HO5:=hide hown
      have HML:Hid (m=(agSpools (agSubmits a 2 newB) 2).length):=hide (by rw [unhide HRS,unhide HM])
      clear hown hxe HO2 HO1 HWR HXS HM HRS HG hxl hmR
      obtain ⟨hep,IL,ic,ih,ifr,ipl,iD,iP,iI⟩:=(unhide HA5).img
      have HIA:=hide (iI y5 (Below.refl _ _) 0)
      unfold ptrTo at HIA
      clear iI
      rcases cyAgain_case iD iP hep with hR | hO
      ·clear iD iP hep
       have HRF:=hide hR
       clear hR
       go_upto_region 23 with (first
        | (go_at_call 23;refine (unhide HIA).mono ?_;rintro r y6 ⟨iv,rfl,ho,hy⟩;have HB6:=hide ((unhide HB5).trans (hy.mono (unhide HB5).size));have HOPN:=hide ((unhide HRF) y6 iv (Owns.at ho));obtain ⟨iad,icap,rfl,_⟩:=ho.shape;generalize IL.length=ilen at HOPN ⊢;clear ho hy)
        | (go_at_call 21;refine (unhide HOPN).mono ?_;rintro r y7 ⟨rfl,k1⟩;have HB7:=hide ((unhide HB6).trans (k1.mono (unhide HB6).size));clear k1))
       clear HOPN HIA HRF HB6 HA5 HO5 HB5
       go_wp2
       go_meet
       exact unhide HB7
      ·clear iD iP
       have HRF:=hide hO
       clear hO
       unfold ptrTo at HRF
       go_upto_region 23 with (first
        | (go_at_call 23;refine (unhide HIA).mono ?_;rintro r y6 ⟨iv,rfl,ho,hy⟩;have HB6:=hide ((unhide HB5).trans (hy.mono (unhide HB5).size));have HA6:=hide ((unhide HA5).below hy);have HO6:=hide (ownsRow_keepB (unhide HO5) (fun g hg => hy.block g (World.ownsRow.lt (unhide HO5) g hg).2));have HOPN:=hide ((unhide HRF) y6 iv (Owns.at ho));obtain ⟨iad,icap,rfl,_⟩:=ho.shape;generalize IL.length=ilen at HOPN ⊢;clear ho hy)
        | (go_at_call 21;refine (unhide HOPN).mono ?_;rintro r y7 ⟨vb,V2,rfl,k0,k1,k2⟩;have HQ7:Hid (AnyA w.heap.size 0 0 (op+1) 1 y7 vb (Mod.reop (agSubmits a 2 newB))):=hide ⟨V2,k0,fun k hk => ⟨Nat.le_trans (unhide HB6).size (k2 k hk),.inr (Nat.zero_le _)⟩⟩;have HB7:=hide ((unhide HB6).trans (k1.mono (unhide HB6).size));have HA7:=hide ((unhide HA6).below k1);have HO7:=hide (ownsRow_keepB (unhide HO6) (fun g hg => k1.block g (World.ownsRow.lt (unhide HO6) g hg).2));clear k0 k1 k2))
       clear HOPN HIA HRF HB6 HA6 HO6 HA5 HO5 HB5
       go_upto_region 24 with fail
       have hE1:=(unhide HQ7).epoch
       have hE1':Calls Tryz.prog 24 #[ptrTo vb] y7 fun r y => r = .returned (.int .i64 ((op:Int)+1))∧Below y7.heap.size y7 y:=by
        have e:((Mod.reop (agSubmits a 2 newB)).epoch:Int)=(op:Int)+1:=by
         show (((agSubmits a 2 newB).epoch+1:Nat):Int)=_
         rw [hep]
         omega
        rw [e] at hE1
        exact hE1
       have hE2:=fun y (hy:Below y7.heap.size y7 y) => ((unhide HA7).below hy).epoch
       rw [hep] at hE2
       have HE1:=hide hE1'
       have HE2:=fun y hy => hide (hE2 y hy)
       clear hE1 hE1' hE2
       unfold ptrTo at HE1 HE2
       have how:IntKind.i64.wrap ((op:Int)+1)=(op:Int)+1:=by have:=unhide HOP;rw [IntKind.wrap_i64];omega
       clear hep
       go_upto_region 26 with (first
        | (go_at_call 24;refine (unhide HE1).mono ?_;rintro r y8 ⟨rfl,k1⟩;have HY8:=hide k1;have HQ8:=hide ((unhide HQ7).below k1);have HA8:=hide ((unhide HA7).below k1);have HB8:=hide ((unhide HB7).trans (k1.mono (unhide HB7).size));have HO8:=hide (ownsRow_keepB (unhide HO7) (fun g hg => k1.block g (World.ownsRow.lt (unhide HO7) g hg).2));clear k1)
        | (go_at_call 24;refine (unhide (HE2 y8 (unhide HY8))).mono ?_;rintro r y9 ⟨rfl,k1⟩;have HQ9:=hide ((unhide HQ8).below k1);have HB9:=hide ((unhide HB8).trans (k1.mono (unhide HB8).size));have HO9:=hide (ownsRow_keepB (unhide HO8) (fun g hg => k1.block g (World.ownsRow.lt (unhide HO8) g hg).2));clear k1))
       clear HE1 HE2 HY8 HQ8 HA8 HB8 HO8 HQ7 HA7 HB7 HO7
       have hsp:=(unhide HQ9).spool 2
       have hlg:agSpools (Mod.reop (agSubmits a 2 newB)) 2=agSpools (agSubmits a 2 newB) 2:=by simp [agSpools,Mod.reop,Mod.Ag.spool]
       rw [hlg,← unhide HML] at hsp
       have HSP:=hide hsp
       clear hsp hlg
       unfold ptrTo at HSP
       go_upto_region 27 with (go_at_call 18;refine (unhide HSP).mono ?_;rintro r y10 ⟨lv,rfl,ho,hy⟩;have HB10:=hide ((unhide HB9).trans (hy.mono (unhide HB9).size));have HO10:=hide (ownsRow_keepB (unhide HO9) (fun g hg => hy.block g (World.ownsRow.lt (unhide HO9) g hg).2));obtain ⟨gad,gcap,rfl,_⟩:=(own_rowO ho).shape;have HG10:=hide ho;clear ho hy)
       clear HSP HQ9 HB9 HO9
       have hSM:Calls Tryz.prog 19 #[.slice bad m bcap,.slice gad m gcap] y10 fun r y => r = .returned (.bool true)∧∃ q,y=y10.drewN q:=by
        have:=keepSame_any y10 (.slice bad m bcap) (.slice gad m gcap) (agSpools (agSubmits a 2 newB) 2) (agSpools (agSubmits a 2 newB) 2) (listAt_len (unhide HO10) (unhide HML)) (listAt_len (unhide HG10) (unhide HML)) (by rw [← unhide HML];have:=unhide HBN;omega)
        simpa using this
       have HSM:=hide hSM
       clear hSM
       go_upto_region 28 with (go_at_call 19;refine (unhide HSM).mono ?_;rintro r y11 ⟨rfl,q9,rfl⟩;have HB11:=hide (below_drewN (unhide HB10) q9))
       clear HSM HB10 HO10 HG10
       go_wp2
       go_meet
       exact unhide HB11
  case rest =>
   have HBc:=hide hcut
   clear hcut
   have hn2:=unhide HN2
   rcases cxOpen_case L2 with hR | ⟨h',at2,rs2,lg,q1,q2,q3,q5⟩
   ·have HC:=hide (hR wc _ (BytesAt.below (unhide H2) (unhide HBc)))
    clear hR hn2
    go_wp2_with (go_at_call 25;refine (unhide HC).mono ?_;rintro r z1 ⟨rfl,k1⟩;have HZ1:=hide ((unhide HBc).trans (k1.mono (unhide HBc).size));clear k1)
    go_ret
    exact ⟨rfl,unhide HZ1⟩
   ·rw [q1] at hn2
    subst hn2
    clear q1 q2 q3
    generalize h'.o+1=op2 at q5
    generalize h'.a=ep at q5
    have HC:=hide (q5 wc _ (BytesAt.below (unhide H2) (unhide HBc)))
    clear q5 at2 rs2
    unfold ptrTo at HC
    go_upto_region 31 with (go_at_call 25;refine (unhide HC).mono ?_;rintro r z1 ⟨vs,V,rfl,k0,k1,k2⟩;have HS1:Hid (AnyS w.heap.size 0 0 op2 1 z1 vs { epoch:=ep,logs:=lg,held:=[] }):=hide ⟨V,k0,fun k hk => ⟨Nat.le_trans (unhide HBc).size (k2 k hk),.inr (Nat.zero_le _)⟩⟩;have HZ1:=hide ((unhide HBc).trans (k1.mono (unhide HBc).size));clear k0 k1 k2)
    clear HC HBc
    go_wp2
    go_loopw [18,19] (fun nv i wr => ∃ k:Nat,k ≤ 3∧i = .int .i64 k∧nv = .int .i64 (spN (skLogs { epoch:=ep,logs:=lg,held:=[] }) k:Nat)∧AnyS w.heap.size 0 0 op2 1 wr vs { epoch:=ep,logs:=lg,held:=[] } ∧ Below w.heap.size w wr) (fun _ i _ => 3 - (intOf i).toNat)
    case atStart => exact ⟨0,by omega,rfl,rfl,unhide HS1,unhide HZ1⟩
    case round =>
     obtain ⟨k,hk,rfl,rfl,hS,hB⟩:=hrel
     have hroom:spN (skLogs { epoch:=ep,logs:=lg,held:=[] }) 3 ≤ 120:=by rw [spN_sk];exact hS.good.room
     have hle:=spN_le (skLogs { epoch:=ep,logs:=lg,held:=[] }) hk
     have HS:=hide hS
     have HB:=hide hB
     clear hS hB HS1 HZ1
     by_cases hlt:k < 3
     ·have hki:(k:Int) < 3:=by omega
      have hk0:(0:Int) ≤ (k:Int):=by omega
      have hsp:=(unhide HS).log (k:Int)
      have hnx:spN (skLogs { epoch:=ep,logs:=lg,held:=[] }) (k+1)=spN (skLogs { epoch:=ep,logs:=lg,held:=[] }) k+(skLogs { epoch:=ep,logs:=lg,held:=[] } k).length:=rfl
      have hle2:=spN_le (skLogs { epoch:=ep,logs:=lg,held:=[] }) (k:=k+1) (by omega)
      obtain ⟨s,hs⟩:∃ s,s=spN (skLogs { epoch:=ep,logs:=lg,held:=[] }) k:=⟨_,rfl⟩
      obtain ⟨m,hm⟩:∃ m,m=(skLogs { epoch:=ep,logs:=lg,held:=[] } k).length:=⟨_,rfl⟩
      rw [← hs] at hnx ⊢
      rw [← hm] at hsp hnx
      have hbd:s+m ≤ 120:=by omega
      have HK:=hide (And.intro hlt (And.intro hnx hbd))
      have HSP:=hide hsp
      clear hsp hnx hle hle2 hs hm hroom hlt hk
      unfold ptrTo at HSP
      have hwr:IntKind.i64.wrap ((s:Int)+(m:Int))=((s+m:Nat):Int):=by rw [IntKind.wrap_i64];omega
      go_upto_region 40 with (go_at_call 17;refine (unhide HSP).mono ?_;rintro r y ⟨lv,rfl,ho,hy⟩;have HSy:=hide ((unhide HS).below hy);have HBy:=hide ((unhide HB).trans (hy.mono (unhide HB).size));obtain ⟨lad,lcap,rfl,_⟩:=(own_rowO ho).shape;clear ho hy)
      go_wp2
      go_roundw
      case rel => exact ⟨k+1,by have:=(unhide HK).1;omega,by go_num,by rw [(unhide HK).2.1,Int.natCast_add],unhide HSy,unhide HBy⟩
      case measure => have:=(unhide HK).1;simp [intOf];omega
     ·obtain rfl:k=3:=by omega
      have hlg:skLogs { epoch:=ep,logs:=lg,held:=[] } 1=lg 1:=by simp [skLogs]
      have hsp:=(unhide HS).log 1
      rw [hlg] at hsp
      obtain ⟨R,hR⟩:∃ R,R=spN (skLogs { epoch:=ep,logs:=lg,held:=[] }) 3:=⟨_,rfl⟩
      have hmR:(lg 1).length ≤ R:=by rw [hR];exact spN_one lg ep
      rw [← hR] at hroom ⊢
      obtain ⟨m,hm⟩:∃ m,m=(lg 1).length:=⟨_,rfl⟩
      obtain ⟨xs,hxs⟩:∃ xs,xs=strs (lg 1):=⟨_,rfl⟩
      have hxl:xs.length=m:=by rw [hxs,strs_length,hm]
      rw [← hm] at hsp hmR
      rw [← hxs] at hsp
      have HSP:=hide hsp
      have HXS:=hide hxs
      have HM:=hide hm
      have HRR:=hide hR
      clear hsp hxs hm hR hlg hle hlt hk
      unfold ptrTo at HSP
      have hgt:¬ (120:Int) < (R:Int):=by omega
      go_upto_region 42 with (go_at_call 17;refine (unhide HSP).mono ?_;rintro r z2 ⟨lv,rfl,ho,hy⟩;have HS2:=hide (((unhide HS).gap z2.heap.size).below hy);have HWQ:=hide (unhide HB).size;have HB2:=hide ((unhide HB).trans (hy.mono (unhide HB).size));obtain ⟨lad,lcap,rfl,_⟩:=(own_rowO ho).shape;have HL2:=hide ho;clear ho hy)
      clear HSP HS HB
      go_upto_region 44 with fail
      have hE:=(unhide HS2).epoch
      have HE1:Hid (Calls Tryz.prog 27 #[.pointer (some ⟨vs,0,none⟩)] z2 fun r y => r = .returned (.int .i64 ep)∧y=z2):=hide hE
      clear hE
      have hmw:IntKind.i64.wrap ((m:Int)+1)=(m:Int)+1:=by rw [IntKind.wrap_i64];omega
      obtain ⟨BL,hBL⟩:∃ BL,BL=Wire.bytes 3 ep (1:Nat) (m+1:Nat) newB.data.toList:=⟨_,rfl⟩
      have hep:ep ≤ 2147483647:=(unhide HS2).good.ep
      have HE:∀ y,Hid (Calls Tryz.prog 26 #[.agg #[.int .i64 3,.int .i64 ep,.int .i64 1,.int .i64 ((m:Int)+1),.string ⟨#[110,101,119]⟩]] y fun r w' => ∃ v,r = .returned (.tuple #[v,.int .i64 0])∧Owns (y.heap.size+1) w' v BL∧Below y.heap.size y w'):=fun y => by
       have e:((m:Int)+1)=((m+1:Nat):Int):=by omega
       rw [e,hBL]
       exact courier_Encode_yes 3 ep (1:Nat) (m+1:Nat) newB y (new_proper hep (by omega) (by omega))
      have HBL:=hide hBL
      have HRM:=hide (And.intro hroom hmR)
      clear hBL hep hroom hmR
      go_upto_region 45 with (first
       | (go_at_call 27;refine (unhide HE1).mono ?_;rintro r y ⟨rfl,hyz⟩;obtain rfl:z2=y:=hyz.symm)
       | (go_at_call 26;refine (unhide (HE _)).mono ?_;rintro r z3 ⟨bv,rfl,ho,hy⟩;have HS3:=hide ((unhide HS2).below hy);have HB3:=hide ((unhide HB2).trans (hy.mono (unhide HB2).size));have HL3:=hide (ownsRow_keepB (unhide HL2) (fun g hg => hy.block g (World.ownsRow.lt (unhide HL2) g hg).2));have HZZ:=hide hy.size;have HOB:=hide (Owns.at ho);obtain ⟨bad,bcap,rfl,_⟩:=ho.shape;clear ho hy))
      obtain ⟨a2,e1,e2,hdl⟩:=(unhide HS3).next (q:=m+1) (by rw [unhide HM]) (by have:=unhide HRM;omega) _ (by rw [← unhide HBL];exact unhide HOB) (by omega) (unhide HZZ) (unhide HB3).size
      rw [← unhide HRR] at e2
      have HDL:=hide hdl
      have HA2:=hide (And.intro e1 e2)
      clear hdl e1 e2 HE1 HE HOB HBL HS2 HB2
      unfold ptrTo at HDL
      generalize BL.length=bl at HDL ⊢
      go_upto_region 46 with (go_at_call 15;refine (unhide HDL).mono ?_;rintro r z4 ⟨lv,rfl,⟨dad,dn,dcap,rfl⟩,⟨ct2,k1⟩,k2⟩;have HS4:=hide k1;have HB4:=hide ((unhide HB3).trans (k2.below (unhide HB3).size (fun k hk e => by omega)));have HL4:=hide (ownsRow_keepB (unhide HL3) (fun g hg => k2.rest g (World.ownsRow.lt (unhide HL3) g hg).2 (fun e => by have h1:=(World.ownsRow.lt (unhide HL2) g hg);omega)));clear k1 k2)
      clear HDL HS3 HB3 HL3
      obtain ⟨bq,hbq⟩:∃ bq,decide ((R:Int) < 120)=bq:=⟨_,rfl⟩
      go_upto_if 173 with fail
      go_cut [21] from 174 to 176 (fun lv wx => ∃ (ad:Option Addr) (n cap:Nat),lv = .slice ad n cap∧n=(a2.logs 1).length∧wx.ownsRow 0 9 1 (.slice ad n cap) n (strs (a2.logs 1))∧AnyS w.heap.size wr.heap.size z2.heap.size op2 ct2 wx vs a2∧Below w.heap.size w wx)
      case first =>
       cases bq with
       | true =>
        have hfull:R < 120:=by have:=of_decide_eq_true hbq;omega
        clear hbq
        rw [if_pos hfull] at HA2
        have HROW:=hide (ownsRow_monoB (unhide HL4) (Nat.zero_le _))
        have HMS:Hid (m ≤ 120):=hide (by have:=unhide HRM;omega)
        have hms:m ≤ 120:=unhide HMS
        go_wp2_with (at_builtin;refine wpList_app1 rfl (.tmp 174) (.tmp 175) 33 rfl 9 _ 16 Tryz.underlying33 infoStr rfl (.slice lad m lcap) xs (by rw [hxl];exact World.ownsRow.alloc (unhide HROW) _) rfl ⟨z4.heap.size,0,none⟩ (.string ⟨#[110,101,119]⟩) rfl (by simp) rfl (by omega) (by omega) ?_;intro v' z5 hown' _ happ;have HAPP:=hide happ;have HOWN:=hide hown';obtain ⟨ad5,cap5,rfl,_⟩:=(own_rowO hown').shape;clear happ hown')
        go_meet
        obtain ⟨f1,f2⟩:=any_app (b:=0) (fun q _ => Nat.zero_le _) (unhide HAPP)
        have hown:=unhide HOWN
        have hxe:xs ++ [Value.string ⟨#[110,101,119]⟩] = strs (a2.logs 1):=by rw [(unhide HA2).2,unhide HXS];simp [strs,newB]
        have hln:(xs ++ [Value.string ⟨#[110,101,119]⟩]).length=m+1:=by rw [List.length_append,hxl];rfl
        rw [hln] at hown
        rw [hxe] at hown
        first | rw [hln] | skip
        refine ⟨ad5,m+1,cap5,rfl,by rw [(unhide HA2).2,List.length_append,unhide HM];rfl,hown,(unhide HS4).write f1 (fun k hk => World.ownsRow.lt (unhide HL2) k hk),(unhide HB4).trans (f1.below (unhide HB4).size (fun k hk e => by have:=(World.ownsRow.lt (unhide HL2) k e).1;have:=unhide HWQ;omega))⟩
       | false =>
        have hfull:¬ R < 120:=by have:=of_decide_eq_false hbq;omega
        clear hbq
        rw [if_neg hfull] at HA2
        go_wp2
        go_meet
        have hown:=ownsRow_monoB (unhide HL4) (Nat.zero_le _)
        have hxe:xs=strs (a2.logs 1):=by rw [(unhide HA2).2,unhide HXS]
        rw [hxe] at hown
        exact ⟨lad,m,lcap,rfl,by rw [(unhide HA2).2,unhide HM],hown,unhide HS4,unhide HB4⟩
      case rest =>
       clear hbq
       obtain ⟨ad5,mm,cap5,rfl,hml,hown,hS5,hB5⟩:=hcut
       have HML:=hide hml
       have HO5:=hide hown
       have HS5:=hide hS5
       have HB5:=hide hB5
       have HMM:Hid (mm ≤ 1000000000):=hide (by rw [unhide HML,(unhide HA2).2];have h1:=unhide HRM;have h2:=unhide HM;split <;> first | omega | (rw [List.length_append];simp;omega))
       clear hml hown hS5 hB5 HS4 HB4 HL4
       obtain ⟨IL,ic,ih,iD,iI⟩:=(unhide HS5).img
       have HIA:=hide (iI wc (Below.refl _ _) 0)
       unfold ptrTo at HIA
       clear iI
       rcases cxAgain_case iD with hR | ⟨op3,hO⟩
       ·clear iD
        have HRF:=hide hR
        clear hR
        go_upto_region 51 with (first
         | (go_at_call 28;refine (unhide HIA).mono ?_;rintro r z6 ⟨iv,rfl,ho,hy⟩;have HB6:=hide ((unhide HB5).trans (hy.mono (unhide HB5).size));have HOPN:=hide ((unhide HRF) z6 iv (Owns.at ho));obtain ⟨iad,icap,rfl,_⟩:=ho.shape;generalize IL.length=ilen at HOPN ⊢;clear ho hy)
         | (go_at_call 25;refine (unhide HOPN).mono ?_;rintro r z7 ⟨rfl,k1⟩;have HB7:=hide ((unhide HB6).trans (k1.mono (unhide HB6).size));clear k1))
        go_wp2
        go_ret
        exact ⟨rfl,unhide HB7⟩
       ·clear iD
        have HRF:=hide hO
        clear hO
        unfold ptrTo at HRF
        go_upto_region 51 with (first
         | (go_at_call 28;refine (unhide HIA).mono ?_;rintro r z6 ⟨iv,rfl,ho,hy⟩;have HB6:=hide ((unhide HB5).trans (hy.mono (unhide HB5).size));have HS6:=hide ((unhide HS5).below hy);have HO6:=hide (ownsRow_keepB (unhide HO5) (fun g hg => hy.block g (World.ownsRow.lt (unhide HO5) g hg).2));have HOPN:=hide ((unhide HRF) z6 iv (Owns.at ho));obtain ⟨iad,icap,rfl,_⟩:=ho.shape;generalize IL.length=ilen at HOPN ⊢;clear ho hy)
         | (go_at_call 25;refine (unhide HOPN).mono ?_;rintro r z7 ⟨vt,V2,rfl,k0,k1,k2⟩;have HT7:Hid (AnyS w.heap.size 0 0 op3 1 z7 vt { epoch:=a2.epoch,logs:=a2.logs,held:=[] }):=hide ⟨V2,k0,fun k hk => ⟨Nat.le_trans (unhide HB6).size (k2 k hk),.inr (Nat.zero_le _)⟩⟩;have HB7:=hide ((unhide HB6).trans (k1.mono (unhide HB6).size));have HS7:=hide ((unhide HS6).below k1);have HO7:=hide (ownsRow_keepB (unhide HO6) (fun g hg => k1.block g (World.ownsRow.lt (unhide HO6) g hg).2));clear k0 k1 k2))
        clear HOPN HIA HS6 HO6 HB6 HS5 HO5 HB5
        have hsp:=(unhide HT7).log 1
        have hlg:skLogs { epoch:=a2.epoch,logs:=a2.logs,held:=[] } 1=a2.logs 1:=by simp [skLogs]
        rw [hlg,← unhide HML] at hsp
        have HSP:=hide hsp
        clear hsp hlg
        unfold ptrTo at HSP
        go_upto_region 56 with (go_at_call 17;refine (unhide HSP).mono ?_;rintro r z8 ⟨lv,rfl,ho,hy⟩;have HT8:=hide ((unhide HT7).below hy);have HS8:=hide ((unhide HS7).below hy);have HB8:=hide ((unhide HB7).trans (hy.mono (unhide HB7).size));have HO8:=hide (ownsRow_keepB (unhide HO7) (fun g hg => hy.block g (World.ownsRow.lt (unhide HO7) g hg).2));obtain ⟨gad,gcap,rfl,_⟩:=(own_rowO ho).shape;have HG8:=hide ho;clear ho hy)
        clear HSP HT7 HS7 HB7 HO7
        have hSM:Calls Tryz.prog 19 #[.slice ad5 mm cap5,.slice gad mm gcap] z8 fun r y => r = .returned (.bool true)∧∃ q,y=z8.drewN q:=by
         have:=keepSame_any z8 (.slice ad5 mm cap5) (.slice gad mm gcap) (a2.logs 1) (a2.logs 1) (listAt_len (unhide HO8) (unhide HML)) (listAt_len (unhide HG8) (unhide HML)) (by rw [← unhide HML];exact unhide HMM)
         simpa using this
        have HSM:=hide hSM
        clear hSM
        go_upto_region 57 with (go_at_call 19;refine (unhide HSM).mono ?_;rintro r z9 ⟨rfl,q9,rfl⟩;have HT9:=hide ((unhide HT8).below (below_drewN (Below.refl _ _) q9));have HS9:=hide ((unhide HS8).below (below_drewN (Below.refl _ _) q9));have HB9:=hide (below_drewN (unhide HB8) q9))
        clear HSM HT8 HS8 HB8 HO8 HG8
        have hE1:=(unhide HT9).epoch
        have hE2:=(unhide HS9).epoch
        obtain ⟨E,hEE⟩:∃ E,E=a2.epoch:=⟨_,rfl⟩
        rw [← hEE] at hE2
        have hE3:Calls Tryz.prog 27 #[ptrTo vt] (z8.drewN q9) fun r y => r = .returned (.int .i64 E)∧y=z8.drewN q9:=by rw [hEE];exact hE1
        have HE2:=hide hE2
        have HE3:=hide hE3
        clear hE1 hE2 hE3 hEE
        unfold ptrTo at HE2 HE3
        go_wp2_with (first
         | (go_at_call 27;refine (unhide HE3).mono ?_;rintro r y ⟨rfl,rfl⟩)
         | (go_at_call 27;refine (unhide HE2).mono ?_;rintro r y ⟨rfl,rfl⟩))
        go_ret
        exact ⟨rfl,unhide HB9⟩
end Go.Proofs.YtamafdcnbcoegabGreat
namespace Go.Proofs.YtamafdcnbcoegabGreat
open Go.ChangeShapes Go.WideShapes Go.ChangeAt Go.RowKit
theorem Tryz.own:ownKnob Tryz.prog.godebug=none:=by kernel_rfl
theorem Tryz.laidOut:laidOutB Tryz.prog=true:=by kernel_rfl
theorem byteCells:Tryz.prog.cellsOf 5=1:=by kernel_rfl
set_option maxRecDepth 100000 in
theorem open_bytes {H:Type} {enc:TypeId × Value→H} {w:World} {v:Value} {d:DataW H} {p:List MemPlace}
  (h:DataW.Trod enc Tryz.prog w 0 (fun _ => true) true 48 v d p) (hv:∃ a len cap,v = .slice a len cap):∃ ad len cap L,v = .slice ad len cap∧BytesAt w (.slice ad len cap) L:=by
 obtain ⟨a1,len,cap,rfl⟩:=hv
 obtain ⟨fuel,hf⟩:=h
 rcases open_ints Tryz.underlying48 Tryz.underlying5 byteCells hf with ⟨hcs,hx⟩ | ⟨a,len',cap',zs,hcs,_,hl,hm,hz,hx,hcell,hwz⟩
 ·simp [Value.cells] at hcs
  obtain ⟨rfl,rfl,rfl⟩:=hcs
  exact ⟨none,0,0,[],rfl,none,0,rfl,Nat.le_refl _,by simp,fun h => absurd h (by simp)⟩
 ·simp [Value.cells] at hcs
  obtain ⟨rfl,rfl,rfl⟩:=hcs
  simp only [if_true] at hz
  have hlen:((zs.take len).map fun n => UInt8.ofNat n.toNat).length=len:=by simp;omega
  refine ⟨some a,len,cap,(zs.take len).map fun n => UInt8.ofNat n.toNat,rfl,some a,cap,by rw [hlen],by rw [hlen];exact hl,by rw [hlen];unfold maxLen at hm;omega,fun h0 => ?_⟩
  rw [hlen] at h0 ⊢
  obtain ⟨ab,ao,spot⟩:=a
  have hspot:spot=none:=by simpa [Addr.add] using World.cell?_spot (hcell 0 (by omega))
  subst hspot
  refine ⟨ab,ao,rfl,fun j hj => ?_⟩
  have hcj:=hcell j (by omega)
  rw [Addr.add_lit] at hcj
  rw [hcj]
  have hb:=range_u8 hwz j
  have e:zs.getD j 0=zs[j]'(by omega):=by simp [List.getD,List.getElem?_eq_getElem (show j < zs.length by omega)]
  have e2:((zs.take len).map fun n => UInt8.ofNat n.toNat).getD j 0=UInt8.ofNat (zs[j]'(by omega)).toNat:=by
   rw [List.getD_eq_getElem?_getD,List.getElem?_map,List.getElem?_take,if_pos hj,List.getElem?_eq_getElem (show j < zs.length by omega)]
   rfl
  rw [e2,e]
  rw [List.getElem?_eq_getElem (show j < zs.length by omega)] at hb
  simp only [Option.getD_some] at hb
  congr 2
  simp only [UInt8.toNat_ofNat']
  omega
set_option maxRecDepth 100000 in
theorem any_lifted {top:Nat} (C:AgentC top) (D:SinkC) (ht:1000 ≤ top) (os:Os) (started:os.Started) (H:Type) (enc:TypeId × Value→H) :
  ReturnsInHanded {} Tryz.checked os 4 .any (Rows.anySpec.pre6 enc Tryz.prog Tryz.f4 Rows.anyRow.domain false) (Rows.anySpec.post enc Tryz.prog Tryz.f4 false true false false):=by
 refine returnsInHanded_of_change_sized (C:=Tryz.checked) Tryz.own started (by kernel_rfl) Tryz.func4
  (ChangeSpec.witness6 (enc:=enc) (C:=Tryz.checked) false ⟨#[],#[.slice none 0 0,.slice none 0 0],[]⟩ 8 (by kernel_rfl) (by kernel_rfl) (by kernel_rfl) (by kernel_rfl)) ?_
 intro W base args ds gs before hval0 hW hcnd hsz0 hholds
 have hval:∀ (j:Nat) t v,Tryz.f4.params[j]? = some t→args[j]? = some v→Value.okWide Tryz.prog W .any base t v:=hval0
 have hsz:(DataW.weightsEach Tryz.prog (Tryz.f4.params.toList ++ Rows.anySpec.plain.varTypes Tryz.prog) (ds ++ gs)).all (· ≤ reachBytes)=true:=hsz0
 have hW':=hW
 obtain ⟨p,q,hA0,hV,rfl,hfz,hnd⟩:=hW
 have hA:DataW.TrodAll enc Tryz.prog W 0 (fun _ => true) true Tryz.f4.params.toList args.toList ds p:=hA0
 rw [Tryz.params4] at hA hval hsz
 obtain ⟨v0,vs0,d0,ds0,p0,q0,hargs,rfl,rfl,h0,r0⟩:=trodAll_cons hA
 obtain ⟨v1,vs1,d1,ds1,p1,q1,rfl,rfl,rfl,h1,r1⟩:=trodAll_cons r0
 obtain ⟨rfl,rfl,rfl⟩:=trodAll_nil r1
 obtain rfl:args = #[v0,v1]:=by cases args;simp_all
 obtain ⟨rfl,rfl⟩:=trodVars_none hV
 have k0:=h0
 have k1:=h1
 have lt0:∀ x ∈ p0,x.block < W.heap.size:=by obtain ⟨m,hm⟩:=k0;exact DataW.trod_lt m _ _ _ hm
 have lt1:∀ x ∈ p1,x.block < W.heap.size:=by obtain ⟨m,hm⟩:=k1;exact DataW.trod_lt m _ _ _ hm
 obtain ⟨ad1,n1,c1,L1,rfl,b1⟩:=open_bytes h0 (okWide_slice Tryz.underlying48 (hval 0 48 v0 rfl rfl))
 obtain ⟨ad2,n2,c2,L2,rfl,b2⟩:=open_bytes h1 (okWide_slice Tryz.underlying48 (hval 1 48 v1 rfl rfl))
 clear hA0 hval0 hsz0
 refine (any_any C D ht ad1 ad2 n1 n2 c1 c2 L1 L2 W b1 b2).mono fun e W' ⟨he,bel⟩ => ?_
 subst he
 exact ⟨_,rfl,_,_,_,[],_,[],hW',trodAll_mk1 (shut_bool Tryz.underlying4 _),(trodAll_cons_mk (Below.trod Tryz.laidOut (by kernel_rfl) (of_decide_eq_true (by kernel_rfl)) k0 bel lt0) (trodAll_cons_mk (Below.trod Tryz.laidOut (by kernel_rfl) (of_decide_eq_true (by kernel_rfl)) k1 bel lt1) trodAll_mk0)),rfl,bel.frame _,fun h => by cases h⟩
theorem any_holds {top:Nat} (C:AgentC top) (D:SinkC) (ht:1000 ≤ top):Rows.AnySaid :=
 OpenClaim.holds_of_wide 4 Tryz.f4 rfl rfl rfl rfl rfl rfl rfl ⟨rfl,rfl,rfl,rfl,rfl⟩ rfl rfl rfl rfl rfl (by kernel_rfl) Tryz.func4 (by kernel_rfl)
  (of_decide_eq_true (by kernel_rfl)) (by unfold Func.isWrapper;rw [if_neg (by decide +kernel)];exact ⟨rfl,rfl⟩)
  (fun os started H enc _ => any_lifted C D ht os started H enc)
end Go.Proofs.YtamafdcnbcoegabGreat
