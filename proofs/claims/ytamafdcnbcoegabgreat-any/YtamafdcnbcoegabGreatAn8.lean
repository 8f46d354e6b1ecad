/-
  Part 8 of a proof: D20, D21, D22, E3.
-/
import Derived.Test.YtamafdcnbcoegabGreatAn7
namespace Go.Proofs.YtamafdcnbcoegabGreat
open Go.RowKit
theorem readHead_any (S:List UInt8) (hS:S.length=64) (w:World):Calls Tryz.prog 159 #[.agg (bv S).toArray] w fun r w' =>
  ∃ h:Mod.Hd,r = .returned (.tuple #[hdVal h,.bool (Mod.headOk S)])∧(Mod.headOk S=true→h=Mod.headIs S)∧Below w.heap.size w w':=by
 by_cases hne:S=zeros
 ·subst hne
  refine (readHead_zero w).mono ?_
  rintro r y ⟨rfl,hb⟩
  have:=Mod.headOk_nought
  rw [nought_zeros] at this
  exact ⟨Mod.hd0,by rw [this.1];rfl,fun _ => this.2.symm,hb⟩
 ·refine (readHead_some S hS hne w).mono ?_
  rintro r y ⟨h,rfl,h2,hb⟩
  refine ⟨h,rfl,fun hk => ?_,hb⟩
  rw [h2 hk]
  unfold Mod.headIs
  rw [nought_zeros,if_neg hne]
theorem size_rec:(Tryz.prog.info? 150).map (·.size)=some 3:=by kernel_rfl
def rcVal (r:Mod.Rc):Value:=.agg #[.int .i64 r.s,.int .i64 r.q,.string r.b]
set_option maxRecDepth 100000 in
set_option maxHeartbeats 4000000 in
theorem readRecord_some (S:List UInt8) (hS:S.length=64) (hne:S ≠ zeros) (last:Nat) (w:World):Calls Tryz.prog 162 #[.agg (bv S).toArray,.int .u32 last] w fun r w' =>
  ∃ h:Mod.Rc,r = .returned (.tuple #[rcVal h,.bool (Mod.recOk S last)])∧(Mod.recOk S last=true→h=Mod.rcOf S)∧Below w.heap.size w w':=by
 have heq:=fun y => eq_sec (S:=S) (T:=zeros) hS length_zeros y
 rw [decide_eq_false hne] at heq
 have hok:Mod.recOk S last=((decide (Mod.lenOf S ≤ 20) && (decide ((S.getD 12 0).toNat < 3) && (decide (1 ≤ (Wire.numAt S 14).toNat) && decide ((Wire.numAt S 14).toNat ≤ 2147483647)))) && (Mod.isStamp (Mod.opOf S) && (decide (Mod.opOf S ≤ last) && decide (Mod.sealR (Mod.opOf S) (Mod.ctOf S) (Mod.rcOf S)=S)))):=by
  unfold Mod.recOk
  rw [nought_zeros,decide_eq_false hne,Bool.false_or]
  rfl
 have hN:=fun (y:World) (h:y.heap[w.heap.size]? = some (.cells (bv S).toArray 214 (0,0))) => hide (number_sec S hS w.heap.size _ y h 14 50 50 (by omega) (by omega))
 rw [← numAt_nat S 14] at hN
 have hST:=fun y => hide (stampOf_any S hS y)
 have ho:=Mod.opOf_lt S
 have hc:=Mod.ctOf_lt S
 have hq0:=Wire.numAt_range S 14
 have hIS:=fun y => hide (isStamp_any (Mod.opOf S) (Mod.ctOf S) y)
 have hlen:(S.getD 13 0).toNat=Mod.lenOf S:=rfl
 have hcell:∀ (y:World) (j:Nat),j < 64→y.heap[w.heap.size]? = some (.cells (bv S).toArray 214 (0,0))→y.cell? ⟨w.heap.size,j,none⟩=some (.int .u8 (S.getD j 0).toNat):=fun y j hj h => by
  rw [blk_cell h,bv_at (by omega)]
 have hc12:=fun y h => hide (hcell y 12 (by omega) h)
 have hc13:=fun y h => hide (hcell y 13 (by omega) h)
 rw [hlen] at hc13
 have hrc:Mod.rcOf S=⟨(S.getD 12 0).toNat,(Wire.numAt S 14).toNat,⟨((S.drop 18).take (Mod.lenOf S)).toArray⟩⟩:=rfl
 have hbl:Mod.lenOf S ≤ 20→(⟨((S.drop 18).take (Mod.lenOf S)).toArray⟩:ByteArray).size ≤ 20:=fun h => by simp [ByteArray.size];omega
 have hconv:Mod.lenOf S ≤ 20→∀ (y:World) (n cap:Nat),n=Mod.lenOf S→y.heap[w.heap.size]? = some (.cells (bv S).toArray 214 (0,0))→(convert 48 9 (.slice (some ⟨w.heap.size,18,none⟩) n cap)).run Tryz.prog y = .ok (.string ⟨((S.drop 18).take (Mod.lenOf S)).toArray⟩) y:=by
  intro hl y n cap hn h
  subst hn
  refine conv_str (by simp;omega) (fun i hi => ?_)
  rw [hcell y (18+i) (by omega) h]
  simp [List.getD_eq_getElem?_getD,hi,List.getElem?_drop]
 have hSR:=fun (h3:(S.getD 12 0).toNat < 3) (hl:Mod.lenOf S ≤ 20) (y:World) => hide (sealRecord_any (Mod.opOf S) (Mod.ctOf S) (S.getD 12 0).toNat (Wire.numAt S 14).toNat ⟨((S.drop 18).take (Mod.lenOf S)).toArray⟩ y ho hc (by omega) (by omega) (hbl hl))
 have hsb:Mod.sealR (Mod.opOf S) (Mod.ctOf S) (Mod.rcOf S)=Mod.sealB (Mod.opOf S) (Mod.ctOf S) (Mod.recIn (S.getD 12 0).toNat (Wire.numAt S 14).toNat (⟨((S.drop 18).take (Mod.lenOf S)).toArray⟩:ByteArray).data.toList):=rfl
 have hlR:Mod.lenOf S ≤ 20→(Mod.sealR (Mod.opOf S) (Mod.ctOf S) (Mod.rcOf S)).length=64:=fun hl => Mod.length_sealR (hbl hl)
 have hEQ:=fun (hl:Mod.lenOf S ≤ 20) y => eq_sec (S:=Mod.sealR (Mod.opOf S) (Mod.ctOf S) (Mod.rcOf S)) (T:=S) (hlR hl) hS y
 have hb12:=(S.getD 12 0).toNat_lt
 have hb13:Mod.lenOf S < 256:=(S.getD 13 0).toNat_lt
 rw [hrc]
 rw [← hsb] at hSR
 clear hsb hlR hbl hcell hlen hrc hne
 obtain ⟨b,hb⟩:∃ b:ByteArray,b=⟨((S.drop 18).take (Mod.lenOf S)).toArray⟩:=⟨_,rfl⟩
 rw [← hb] at hconv hSR ⊢
 clear hb
 obtain ⟨T,hT⟩:∃ T,T=Mod.sealR (Mod.opOf S) (Mod.ctOf S) (Mod.rcOf S):=⟨_,rfl⟩
 rw [← hT] at hSR hEQ hok
 clear hT
 obtain ⟨ok,hok2⟩:∃ ok,ok=Mod.recOk S last:=⟨_,rfl⟩
 rw [← hok2] at hok ⊢
 clear hok2
 have hqm:(Wire.numAt S 14).toNat < 4294967296:=by omega
 clear hq0
 generalize (Wire.numAt S 14).toNat=q at *
 generalize (S.getD 12 0).toNat=sm at *
 generalize Mod.opOf S=o at *
 generalize Mod.ctOf S=c at *
 generalize Mod.lenOf S=ln at *
 have hwl:IntKind.i64.wrap (ln:Int)=(ln:Int):=by rw [IntKind.wrap_i64];omega
 have HOK:=hide hok
 have HCV:=hide hconv
 have HSR:=hide hSR
 have HEQ:=hide hEQ
 clear hok ho hc hconv hSR hEQ
 go_enter Tryz.func162,Tryz.ntmps162
 go_upto_region 1 with fail
 refine wp_world (fun x => x.heap[w.heap.size]? = some (.cells (bv S).toArray 214 (0,0))∧x.heap[w.heap.size+1]? = some (.cells #[.int .i64 0,.int .i64 0,.string ⟨#[]⟩] 150 (0,0))∧Below w.heap.size w x) (alloc2 _ _ _) ?_
 rintro x ⟨h0,h1,hB⟩
 have H0:=hide h0
 have H1:=hide h1
 have HB:=hide hB
 have hz:=lt_of_block h1
 clear h0 h1 hB
 go_upto_region 3 with (first
  | (refine wpList_load_sec rfl (.tmp 2) rfl w.heap.size rfl 214 S hS (unhide H0) ?_)
  | (refine wpList_build_zero rfl rfl ?_;go_simp))
 refine wp_region_last (by kernel_rfl)
  [fun v _ => v = .pointer (some ⟨w.heap.size,13,none⟩),fun v _ => v = .int .u8 ln,fun v _ => v = .int .i64 ln,fun v _ => v = .slice (some ⟨w.heap.size,14,none⟩) 50 50,fun v _ => v = .int .u32 q,fun v _ => v = .agg (bv S).toArray,fun v _ => v = .agg #[.int .u32 o,.int .u64 c],
   fun v z => ∃ g,v = .pointer (some ⟨g,0,none⟩)∧w.heap.size+1 < g∧z.heap[g]? = some (.cells #[.int .u32 0,.int .u64 0] 188 (0,0)),fun v _ => v = .int .i64 ln,fun v _ => v = .int .u32 q,fun _ _ => True]
  [[(2,none)],[(14,some 0)],[(15,some 1)],[(2,none)],[(17,some 3)],[(2,none)],[(19,some 5)],[],[(16,some 2)],[(18,some 4)],[(8,some 7),(20,some 6)]] [some 14,some 15,some 16,some 17,some 18,some 19,some 20,some 8,some 6,some 7,none] [false,false,false,false,false,false,true,true,true,false,false,false,false,false,true,true,true,true,true,true,true,false,false,false,false,false,false,false,false,false,false,false,false,false,false,false,false,false,false,false,false,false,false,false,false,false,false,false,false,false,false,false,false,false,false,false,false,false,false,false,false,false,false]
  10 _ rfl rfl (by kernel_rfl) (by kernel_rfl) (by kernel_rfl) (by kernel_rfl) (by kernel_rfl) (by kernel_rfl) ?_ ?_ ?_
 ·repeat' (first | exact stable_eq _ | exact stable_true | exact (fun _ y z h hb => h.imp fun g h => ⟨h.1,h.2.1,(hb.block _ (lt_of_block h.2.2)).trans h.2.2⟩) | exact trivial | apply And.intro)
 ·refine ⟨?_,?_,?_,?_,?_,?_,?_,?_,?_,?_,trivial⟩
  all_goals
   intro a' y hb hf
   have y0:=(hb.block _ (by omega:w.heap.size < x.heap.size)).trans (unhide H0)
   have hzy:=hb.size
   have d13:=unhide (hc13 y y0)
   have HNy:=hN y y0
   have Y0:=hide y0
   clear hb y0 hN hc12 hc13
   simp only [PlanFacts,List.getD_cons_zero,List.getD_cons_succ,Array.getD_eq_getD_getElem?] at hf
   try simp at hf
  ·go_simp
   first | exact Below.refl _ _ | exact ⟨_,rfl,Below.refl _ _,rfl⟩
  ·go_simp
   first | exact Below.refl _ _ | exact ⟨_,rfl,Below.refl _ _,rfl⟩
  ·go_simp
   first | exact Below.refl _ _ | exact ⟨_,rfl,Below.refl _ _,rfl⟩
  ·go_simp
   first | exact Below.refl _ _ | exact ⟨_,rfl,Below.refl _ _,rfl⟩
  ·go_simp
   refine (unhide HNy).mono ?_
   rintro r w1 ⟨rfl,hb1⟩
   first | exact hb1 | exact ⟨rfl,hb1⟩ | exact ⟨_,rfl,hb1,rfl⟩
  ·rw [if_pos (by rfl)]
   exact oper_load_sec (.tmp 2) rfl w.heap.size (by simp [Act.eval,hf]) 214 S hS (unhide Y0) ⟨_,rfl,Below.refl _ _,rfl⟩
  ·go_simp
   refine (unhide (hST y)).mono ?_
   rintro r w1 ⟨rfl,hb1⟩
   first | exact hb1 | exact ⟨rfl,hb1⟩ | exact ⟨_,rfl,hb1,rfl⟩
  ·go_simp
   exact ⟨_,rfl,(Below.refl _ _).alloc (Nat.le_refl _) _,_,rfl,by omega,heap_alloc_new _ _⟩
  ·go_simp
   first | exact Below.refl _ _ | exact ⟨_,rfl,Below.refl _ _,rfl⟩
  ·go_simp
   first | exact Below.refl _ _ | exact ⟨_,rfl,Below.refl _ _,rfl⟩
 ·intro f y hby hwd
  simp only [AllWords,List.take] at hwd
  have h6:=hwd.2.2.2.2.2.2.1
  obtain ⟨g8,h7,hg8,hc8⟩:=hwd.2.2.2.2.2.2.2.1
  have h8:=hwd.2.2.2.2.2.2.2.2.1
  have h9:=hwd.2.2.2.2.2.2.2.2.2.1
  have y0:=(hby.block _ (by omega:w.heap.size < x.heap.size)).trans (unhide H0)
  have y1:=(hby.block _ hz).trans (unhide H1)
  have HBY:=hide ((unhide HB).trans (hby.mono (unhide HB).size))
  clear hwd hby
  simp only [mergeT,h6,h7,h8,h9]
  refine wp_store_row 188 (.tmp 8) (.tmp 20) rfl g8 #[.int .u32 o,.int .u64 c] (by simp [Act.eval]) (by simp [Act.eval]) 188 _ hc8 (by rw [size_stamp];rfl) (by simp) (by rw [Array.all_eq_true_iff_forall_mem];intro u hu;simp at hu;rcases hu with rfl | rfl <;> rfl) ?_
  have hz8:=setRow_heap y g8 _ #[.int .u32 o,.int .u64 c] 188 (0,0) hc8
  have hF:=far_setRow y g8 #[.int .u32 o,.int .u64 c]
  generalize f 14=x14
  generalize f 15=x15
  generalize f 16=x16
  generalize f 17=x17
  generalize f 18=x18
  generalize f 19=x19
  generalize y.setRow g8 #[.int .u32 o,.int .u64 c] = z at *
  have z0:=hF.blk y0 (by omega)
  have z1:=hF.blk y1 (by omega)
  have hBz:=(unhide HBY).trans (hF.below (unhide HBY).size (fun k hk e => by omega))
  clear hF y0 y1 HBY hc8 h6 h7 h8 h9 H0 H1 HB hz hST hN hc13
  have d12:=unhide (hc12 z z0)
  clear hc12
  have Z0:=hide z0
  have Z8:=hide hz8
  have HBZ:=hide hBz
  have q0:=blk_cell (i:=0) z1
  have q1:=blk_cell (i:=1) z1
  have q2:=blk_cell (i:=2) z1
  simp at q0 q1 q2
  have p0:∀ i,z.frozen? ⟨w.heap.size+1,i,none⟩=false:=fun i => blk_free z1
  have Z1:=hide z1
  clear z0 hz8 hBz z1
  go_simp
  go_upto_region 4 with fail
  by_cases c1:(20:Int) < (ln:Int)
  ·clear HCV HSR HEQ hIS Z0 Z8
   go_wp2
   have hko:ok=false:=by
    rw [unhide HOK,decide_eq_false (show ¬ ln ≤ 20 by omega)]
    simp
   refine bodyPost_ret (v:=.tuple #[.agg #[.int .i64 0,.int .i64 0,.string ⟨#[]⟩],.bool false]) (by simp [results,Tryz.results162,go_sem,q0,q1,q2]) rfl ⟨⟨0,0,⟨#[]⟩⟩,(by rw [hko];rfl),(fun h => (by rw [hko] at h;cases h)),?_⟩
   exact (((unhide HBZ).setCell (p:=⟨w.heap.size+1,0,none⟩) (by simp) _).setCell (p:=⟨w.heap.size+1,1,none⟩) (by simp) _).setCell (p:=⟨w.heap.size+1,2,none⟩) (by simp) _
  ·by_cases c2:(3:Int) ≤ (sm:Int)
   ·clear HCV HSR HEQ hIS Z0 Z8
    go_wp2
    have hko:ok=false:=by
     rw [unhide HOK,decide_eq_false (show ¬ sm < 3 by omega)]
     simp
    refine bodyPost_ret (v:=.tuple #[.agg #[.int .i64 0,.int .i64 0,.string ⟨#[]⟩],.bool false]) (by simp [results,Tryz.results162,go_sem,q0,q1,q2]) rfl ⟨⟨0,0,⟨#[]⟩⟩,(by rw [hko];rfl),(fun h => (by rw [hko] at h;cases h)),?_⟩
    exact (((unhide HBZ).setCell (p:=⟨w.heap.size+1,0,none⟩) (by simp) _).setCell (p:=⟨w.heap.size+1,1,none⟩) (by simp) _).setCell (p:=⟨w.heap.size+1,2,none⟩) (by simp) _
   ·by_cases c3:(q:Int) < 1
    ·clear HCV HSR HEQ hIS Z0 Z8
     go_wp2
     have hko:ok=false:=by
      rw [unhide HOK,decide_eq_false (show ¬ 1 ≤ q by omega)]
      simp
     refine bodyPost_ret (v:=.tuple #[.agg #[.int .i64 0,.int .i64 0,.string ⟨#[]⟩],.bool false]) (by simp [results,Tryz.results162,go_sem,q0,q1,q2]) rfl ⟨⟨0,0,⟨#[]⟩⟩,(by rw [hko];rfl),(fun h => (by rw [hko] at h;cases h)),?_⟩
     exact (((unhide HBZ).setCell (p:=⟨w.heap.size+1,0,none⟩) (by simp) _).setCell (p:=⟨w.heap.size+1,1,none⟩) (by simp) _).setCell (p:=⟨w.heap.size+1,2,none⟩) (by simp) _
    ·by_cases c4:(2147483647:Int) < (q:Int)
     ·clear HCV HSR HEQ hIS Z0 Z8
      go_wp2
      have hko:ok=false:=by
       rw [unhide HOK,decide_eq_false (show ¬ q ≤ 2147483647 by omega)]
       simp
      refine bodyPost_ret (v:=.tuple #[.agg #[.int .i64 0,.int .i64 0,.string ⟨#[]⟩],.bool false]) (by simp [results,Tryz.results162,go_sem,q0,q1,q2]) rfl ⟨⟨0,0,⟨#[]⟩⟩,(by rw [hko];rfl),(fun h => (by rw [hko] at h;cases h)),?_⟩
      exact (((unhide HBZ).setCell (p:=⟨w.heap.size+1,0,none⟩) (by simp) _).setCell (p:=⟨w.heap.size+1,1,none⟩) (by simp) _).setCell (p:=⟨w.heap.size+1,2,none⟩) (by simp) _
     ·have hln:ln ≤ 20:=by omega
      have HCV:=hide ((unhide HCV) hln)
      have HSR:=hide ((unhide HSR) (by omega) hln)
      have HEQ:=hide ((unhide HEQ) hln)
      go_upto_region 6 with fail
      have hlz:=lt_of_block (unhide Z8)
      have hz1:=lt_of_block (unhide Z1)
      have w1:IntKind.i64.wrap (18+(ln:Int))=18+(ln:Int):=by rw [IntKind.wrap_i64];omega
      have w2:IntKind.i64.wrap (sm:Int)=(sm:Int):=by rw [IntKind.wrap_i64];omega
      have w3:IntKind.i64.wrap (q:Int)=(q:Int):=by rw [IntKind.wrap_i64];omega
      have i1:(18:Int) ≤ 18+(ln:Int):=by omega
      have i2:18+(ln:Int) ≤ 64:=by omega
      have i3:(0:Int) ≤ 18+(ln:Int):=by omega
      have i4:(18+(ln:Int)).toNat=18+ln:=by omega
      refine wp_region_last (by kernel_rfl)
       [fun v _ => v = .pointer (some ⟨w.heap.size,12,none⟩),fun v _ => v = .int .u8 sm,fun v _ => v = .int .i64 sm,fun v _ => v = .int .u32 q,fun v _ => v = .int .i64 q,fun v _ => v = .int .i64 ln,fun v _ => v = .int .i64 (18+(ln:Int)),fun v _ => v = .slice (some ⟨w.heap.size,18,none⟩) ln 46,fun v _ => v = .string b,fun v _ => v = .agg #[.int .i64 sm,.int .i64 q,.string b],
        fun v y => ∃ g,v = .pointer (some ⟨g,0,none⟩)∧z.heap.size ≤ g∧y.heap[g]? = some (.cells #[.int .i64 0,.int .i64 0,.string ⟨#[]⟩] 150 (0,0)),fun _ _ => True]
       [[(2,none)],[(37,some 0)],[(38,some 1)],[(7,none)],[(40,some 3)],[(6,none)],[(42,some 5)],[(2,none),(43,some 6)],[(44,some 7)],[(39,some 2),(41,some 4),(45,some 8)],[],[(9,some 10),(46,some 9)]] [some 37,some 38,some 39,some 40,some 41,some 42,some 43,some 44,some 45,some 46,some 9,none] [false,false,false,false,false,false,false,false,false,true,false,false,false,false,false,false,false,false,false,false,false,false,false,false,false,false,false,false,false,false,false,false,false,false,false,false,false,true,true,true,true,true,true,true,true,true,true,false,false,false,false,false,false,false,false,false,false,false,false,false,false,false,false]
       11 _ rfl rfl (by kernel_rfl) (by kernel_rfl) (by kernel_rfl) (by kernel_rfl) (by kernel_rfl) (by kernel_rfl) ?_ ?_ ?_
      ·repeat' (first | exact stable_eq _ | exact stable_true | exact (fun _ y z h hb => h.imp fun g h => ⟨h.1,h.2.1,(hb.block _ (lt_of_block h.2.2)).trans h.2.2⟩) | exact (fun _ _ _ h _ => h) | exact trivial | apply And.intro)
      ·refine ⟨?_,?_,?_,?_,?_,?_,?_,?_,?_,?_,?_,trivial⟩
       all_goals
        intro a' y hb hf
        have y0:=(hb.block _ (by omega:w.heap.size < z.heap.size)).trans (unhide Z0)
        have d12:=(hb.cell (p:=⟨w.heap.size,12,none⟩) (by show w.heap.size < _;omega)).trans d12
        have hzy:=hb.size
        have Y0:=hide y0
        clear hb y0
        simp only [PlanFacts,List.getD_cons_zero,List.getD_cons_succ,Array.getD_eq_getD_getElem?] at hf
        try simp at hf
       iterate 7
        ·go_simp
         first | exact Below.refl _ _ | exact ⟨_,rfl,Below.refl _ _,rfl⟩
       ·go_simp
        first | exact Below.refl _ _ | exact ⟨_,rfl,Below.refl _ _,rfl⟩
       ·have hcv:=(unhide HCV) y ln 46 rfl (unhide Y0)
        go_simp
        first | exact Below.refl _ _ | exact ⟨_,rfl,Below.refl _ _,rfl⟩
       ·go_simp
        first | exact Below.refl _ _ | exact ⟨_,rfl,Below.refl _ _,rfl⟩
       ·go_simp
        exact ⟨_,rfl,(Below.refl _ _).alloc (Nat.le_refl _) _,_,rfl,by omega,heap_alloc_new _ _⟩
      ·intro f y hby hwd
       simp only [AllWords,List.take] at hwd
       have h9:=hwd.2.2.2.2.2.2.2.2.2.1
       obtain ⟨g9,h10,hg9,hc9⟩:=hwd.2.2.2.2.2.2.2.2.2.2.1
       have y0:=(hby.block _ (by omega:w.heap.size < z.heap.size)).trans (unhide Z0)
       have y1:=(hby.block _ hz1).trans (unhide Z1)
       have y8:=(hby.block _ hlz).trans (unhide Z8)
       have HBY:=hide ((unhide HBZ).trans (hby.mono (unhide HBZ).size))
       have hzw:=(unhide HBZ).size
       clear hwd hby
       simp only [mergeT,h9,h10]
       refine wp_store_row 150 (.tmp 9) (.tmp 46) rfl g9 #[.int .i64 sm,.int .i64 q,.string b] (by simp [Act.eval]) (by simp [Act.eval]) 150 _ hc9 (by rw [size_rec];rfl) (by simp) (by rw [Array.all_eq_true_iff_forall_mem];intro u hu;simp at hu;rcases hu with rfl | rfl | rfl <;> rfl) ?_
       have hz9:=setRow_heap y g9 _ #[.int .i64 sm,.int .i64 q,.string b] 150 (0,0) hc9
       have hF:=far_setRow y g9 #[.int .i64 sm,.int .i64 q,.string b]
       generalize f 37=x37
       generalize f 38=x38
       generalize f 39=x39
       generalize f 40=x40
       generalize f 41=x41
       generalize f 42=x42
       generalize f 43=x43
       generalize f 44=x44
       generalize f 45=x45
       generalize y.setRow g9 #[.int .i64 sm,.int .i64 q,.string b] = u at *
       have u0:=hF.blk y0 (by omega)
       have u1:=hF.blk y1 (by omega)
       have u8:=hF.blk y8 (by omega)
       have hBu:=(unhide HBY).trans (hF.below (unhide HBY).size (fun k hk e => by omega))
       clear hF y0 y1 y8 HBY hc9 h9 h10 Z0 Z1 Z8 HBZ d12 q0 q1 q2 p0 HCV i1 i2 i3 i4 w1 w2 w3 hwl
       have U0:=hide u0
       have U1:=hide u1
       have U8:=hide u8
       have U9:=hide hz9
       have HBU:=hide hBu
       clear u0 u1 u8 hz9 hBu
       go_simp
       go_upto_region 7 with fail
       cases his:Mod.isStamp o with
       | false =>
        refine wp_region_foot (by kernel_rfl)
         [fun v _ => v = .agg #[.int .i64 sm,.int .i64 q,.string b],fun v _ => v = .agg #[.int .u32 o,.int .u64 c],fun v _ => v = .bool false,fun v _ => v = .bool false,fun _ _ => True,fun _ _ => True,fun _ _ => True,fun _ _ => True,fun v _ => v = .bool false,fun v _ => v = .bool false,fun _ _ => True,fun _ _ => True,fun _ _ => True,fun _ _ => True,fun _ _ => True,fun v _ => v = .bool (false),fun _ y => y.heap[w.heap.size+1]? = some (.cells #[.int .i64 sm,.int .i64 q,.string b] 150 (0,0)),fun v _ => v = .bool (false)]
         [[(9,none)],[(8,none)],[(48,some 1)],[(49,some 2)],[(8,none),(50,some 3)],[(51,some 4),(50,some 3)],[(1,none),(50,some 3)],[(52,some 5),(53,some 6),(50,some 3)],[(50,some 3),(54,some 7)],[(55,some 8)],[(8,none),(56,some 9)],[(9,none),(56,some 9)],[(57,some 10),(58,some 11),(56,some 9)],[(2,none),(56,some 9)],[(59,some 12),(60,some 13),(56,some 9)],[(56,some 9),(61,some 14)],[(4,none),(47,some 0)],[(62,some 15)]] [some 47,some 48,some 49,some 50,some 51,some 52,some 53,some 54,some 55,some 56,some 57,some 58,some 59,some 60,some 61,some 62,none,some 5] [false,false,false,false,false,true,false,false,false,false,false,false,false,false,false,false,false,false,false,false,false,false,false,false,false,false,false,false,false,false,false,false,false,false,false,false,false,false,false,false,false,false,false,false,false,false,false,true,true,true,true,true,true,true,true,true,true,true,true,true,true,true,true]
         [(16,fun k => k=w.heap.size+1)]
         (by kernel_rfl) (by kernel_rfl) (by kernel_rfl) (by kernel_rfl) (by kernel_rfl) ?_ ?_ ?_ ?_
        ·repeat' (first | exact stable_eq _ | exact stable_true | exact stable_blk _ _ | exact trivial | apply And.intro)
        ·repeat' (first | exact trivial | exact .inl rfl | exact .inr (.inr (stableF_eq _ _)) | exact .inr (.inr (fun _ _ _ _ _ => trivial)) | apply And.intro)
        ·refine ⟨?_,?_,?_,?_,?_,?_,?_,?_,?_,?_,?_,?_,?_,?_,?_,?_,?_,?_,trivial⟩
         all_goals
          intro a' y hb hf
          have y0:=hb.blk (unhide U0) (footBut_no (by intro q hq;simp at hq;subst hq;intro (e:w.heap.size=w.heap.size+1);omega))
          have y8:=hb.blk (unhide U8) (footBut_no (by intro q hq;simp at hq;subst hq;intro (e:g8=w.heap.size+1);omega))
          have y9:=hb.blk (unhide U9) (footBut_no (by intro q hq;simp at hq;subst hq;intro (e:g9=w.heap.size+1);omega))
          have e0:y.cell? ⟨g8,0,none⟩=some (.int .u32 o):=blk_cell (i:=0) y8
          have e1:y.cell? ⟨g8,1,none⟩=some (.int .u64 c):=blk_cell (i:=1) y8
          have r0:y.cell? ⟨g9,0,none⟩=some (.int .i64 sm):=blk_cell (i:=0) y9
          have r1:y.cell? ⟨g9,1,none⟩=some (.int .i64 q):=blk_cell (i:=1) y9
          have r2:y.cell? ⟨g9,2,none⟩=some (.string b):=blk_cell (i:=2) y9
          have Y0:=hide y0
          clear y0 y8 y9
          simp only [PlanFacts,List.getD_cons_zero,List.getD_cons_succ,Array.getD_eq_getD_getElem?] at hf
          try simp at hf
         iterate 2
          ·clear hb
           go_simp
           first | exact Far.refl _ _ | exact ⟨_,rfl,Far.refl _ _,rfl⟩
         ·clear hb
          go_simp
          refine (unhide (hIS y)).mono ?_
          rintro r w1 ⟨rfl,hb1⟩
          exact ⟨_,rfl,far_below hb1,(by rw [his];rfl)⟩
         ·clear hb
          go_simp
          first | exact Far.refl _ _ | exact ⟨_,rfl,Far.refl _ _,rfl⟩
         iterate 4
          ·clear hb
           have hg:a'.tmps[50]? = some (.bool false):=tmpB (by first | exact hf | exact hf.2 | exact hf.2.2)
           go_simp
           try trivial
         iterate 2
          ·clear hb
           go_simp
           first | exact Far.refl _ _ | exact ⟨_,rfl,Far.refl _ _,rfl⟩
         iterate 5
          ·clear hb
           have hg:a'.tmps[56]? = some (.bool false):=tmpB (by first | exact hf | exact hf.2 | exact hf.2.2)
           go_simp
           try trivial
         ·clear hb
          go_simp
          first | exact Far.refl _ _ | exact ⟨_,rfl,Far.refl _ _,rfl⟩
         ·have y1:=hb.blk (unhide U1) (by
           rintro ⟨q,hq,g1,g2,g3⟩
           simp at hq
           subst hq
           exact g1 rfl)
          clear hb
          rw [if_pos (by rfl)]
          refine wp_store_row 150 (.tmp 4) (.tmp 47) rfl (w.heap.size+1) #[.int .i64 sm,.int .i64 q,.string b] (by simp [Act.eval,hf]) (by simp [Act.eval,hf]) 150 _ y1 (by rw [size_rec];rfl) (by simp) (by rw [Array.all_eq_true_iff_forall_mem];intro u hu;simp at hu;rcases hu with rfl | rfl | rfl <;> rfl) ?_
          exact ⟨_,rfl,footOf_of (.head _) (far_setRow _ _ _),setRow_heap _ _ _ _ _ _ y1⟩
         ·clear hb
          go_simp
          first | exact Far.refl _ _ | exact ⟨_,rfl,Far.refl _ _,rfl⟩
        ·intro f y hF hwd
         have h16:=hwd.2.2.2.2.2.2.2.2.2.2.2.2.2.2.2.2.1
         have h17:=hwd.2.2.2.2.2.2.2.2.2.2.2.2.2.2.2.2.2.1
         have k0:y.cell? ⟨w.heap.size+1,0,none⟩=some (.int .i64 sm):=blk_cell (i:=0) h16
         have k1:y.cell? ⟨w.heap.size+1,1,none⟩=some (.int .i64 q):=blk_cell (i:=1) h16
         have k2:y.cell? ⟨w.heap.size+1,2,none⟩=some (.string b):=blk_cell (i:=2) h16
         have HBV:=hide ((unhide HBU).trans (hF.below (unhide HBU).size (fun k hk h => by
          obtain ⟨q,hq,h⟩:=h
          simp at hq
          subst hq
          have h:k=w.heap.size+1:=h
          omega)))
         clear hwd hF h16
         simp only [mergeT,h17]
         generalize f 47=x47
         generalize f 48=x48
         generalize f 49=x49
         generalize f 50=x50
         generalize f 51=x51
         generalize f 52=x52
         generalize f 53=x53
         generalize f 54=x54
         generalize f 55=x55
         generalize f 56=x56
         generalize f 57=x57
         generalize f 58=x58
         generalize f 59=x59
         generalize f 60=x60
         generalize f 61=x61
         generalize f 62=x62
         go_simp
         go_wp2
         have hko:ok=false:=by
          rw [unhide HOK,decide_eq_true (show ln ≤ 20 by omega),decide_eq_true (show sm < 3 by omega),decide_eq_true (show 1 ≤ q by omega),decide_eq_true (show q ≤ 2147483647 by omega),his]
          rfl
         refine bodyPost_ret (v:=.tuple #[.agg #[.int .i64 sm,.int .i64 q,.string b],.bool (false)]) (by simp [results,Tryz.results162,go_sem,k0,k1,k2]) rfl ⟨⟨sm,q,b⟩,(by rw [hko];rfl),(fun _ => rfl),unhide HBV⟩
       | true =>
        by_cases hle:(o:Int) ≤ (last:Int)
        ·refine wp_region_foot (by kernel_rfl)
          [fun v _ => v = .agg #[.int .i64 sm,.int .i64 q,.string b],fun v _ => v = .agg #[.int .u32 o,.int .u64 c],fun v _ => v = .bool true,fun v _ => v = .bool true,fun v _ => v = .pointer (some ⟨g8,0,none⟩),fun v _ => v = .int .u32 o,fun v _ => v = .int .u32 last,fun v _ => v = .bool true,fun v _ => v = .bool true,fun v _ => v = .bool true,fun v _ => v = .agg #[.int .u32 o,.int .u64 c],fun v _ => v = .agg #[.int .i64 sm,.int .i64 q,.string b],fun v _ => v = .agg (bv T).toArray,fun v _ => v = .agg (bv S).toArray,fun v _ => v = .bool (decide (T=S)),fun v _ => v = .bool (decide (T=S)),fun _ y => y.heap[w.heap.size+1]? = some (.cells #[.int .i64 sm,.int .i64 q,.string b] 150 (0,0)),fun v _ => v = .bool (decide (T=S))]
          [[(9,none)],[(8,none)],[(48,some 1)],[(49,some 2)],[(8,none),(50,some 3)],[(51,some 4),(50,some 3)],[(1,none),(50,some 3)],[(52,some 5),(53,some 6),(50,some 3)],[(50,some 3),(54,some 7)],[(55,some 8)],[(8,none),(56,some 9)],[(9,none),(56,some 9)],[(57,some 10),(58,some 11),(56,some 9)],[(2,none),(56,some 9)],[(59,some 12),(60,some 13),(56,some 9)],[(56,some 9),(61,some 14)],[(4,none),(47,some 0)],[(62,some 15)]] [some 47,some 48,some 49,some 50,some 51,some 52,some 53,some 54,some 55,some 56,some 57,some 58,some 59,some 60,some 61,some 62,none,some 5] [false,false,false,false,false,true,false,false,false,false,false,false,false,false,false,false,false,false,false,false,false,false,false,false,false,false,false,false,false,false,false,false,false,false,false,false,false,false,false,false,false,false,false,false,false,false,false,true,true,true,true,true,true,true,true,true,true,true,true,true,true,true,true]
          [(16,fun k => k=w.heap.size+1)]
          (by kernel_rfl) (by kernel_rfl) (by kernel_rfl) (by kernel_rfl) (by kernel_rfl) ?_ ?_ ?_ ?_
         ·repeat' (first | exact stable_eq _ | exact stable_true | exact stable_blk _ _ | exact trivial | apply And.intro)
         ·repeat' (first | exact trivial | exact .inl rfl | exact .inr (.inr (stableF_eq _ _)) | exact .inr (.inr (fun _ _ _ _ _ => trivial)) | apply And.intro)
         ·refine ⟨?_,?_,?_,?_,?_,?_,?_,?_,?_,?_,?_,?_,?_,?_,?_,?_,?_,?_,trivial⟩
          all_goals
           intro a' y hb hf
           have y0:=hb.blk (unhide U0) (footBut_no (by intro q hq;simp at hq;subst hq;intro (e:w.heap.size=w.heap.size+1);omega))
           have y8:=hb.blk (unhide U8) (footBut_no (by intro q hq;simp at hq;subst hq;intro (e:g8=w.heap.size+1);omega))
           have y9:=hb.blk (unhide U9) (footBut_no (by intro q hq;simp at hq;subst hq;intro (e:g9=w.heap.size+1);omega))
           have e0:y.cell? ⟨g8,0,none⟩=some (.int .u32 o):=blk_cell (i:=0) y8
           have e1:y.cell? ⟨g8,1,none⟩=some (.int .u64 c):=blk_cell (i:=1) y8
           have r0:y.cell? ⟨g9,0,none⟩=some (.int .i64 sm):=blk_cell (i:=0) y9
           have r1:y.cell? ⟨g9,1,none⟩=some (.int .i64 q):=blk_cell (i:=1) y9
           have r2:y.cell? ⟨g9,2,none⟩=some (.string b):=blk_cell (i:=2) y9
           have Y0:=hide y0
           clear y0 y8 y9
           simp only [PlanFacts,List.getD_cons_zero,List.getD_cons_succ,Array.getD_eq_getD_getElem?] at hf
           try simp at hf
          iterate 2
           ·clear hb
            go_simp
            first | exact Far.refl _ _ | exact ⟨_,rfl,Far.refl _ _,rfl⟩
          ·clear hb
           go_simp
           refine (unhide (hIS y)).mono ?_
           rintro r w1 ⟨rfl,hb1⟩
           exact ⟨_,rfl,far_below hb1,(by rw [his];rfl)⟩
          ·clear hb
           go_simp
           first | exact Far.refl _ _ | exact ⟨_,rfl,Far.refl _ _,rfl⟩
          iterate 4
           ·clear hb
            have hg:a'.tmps[50]? = some (.bool true):=tmpB (by first | exact hf | exact hf.2 | exact hf.2.2)
            go_simp
            first | exact Far.refl _ _ | exact ⟨_,rfl,Far.refl _ _,rfl⟩
          iterate 2
           ·clear hb
            go_simp
            first | exact Far.refl _ _ | exact ⟨_,rfl,Far.refl _ _,rfl⟩
          iterate 2
           ·clear hb
            have hg:a'.tmps[56]? = some (.bool true):=tmpB (by first | exact hf | exact hf.2 | exact hf.2.2)
            go_simp
            first | exact Far.refl _ _ | exact ⟨_,rfl,Far.refl _ _,rfl⟩
          ·clear hb
           have hg:a'.tmps[56]? = some (.bool true):=tmpB (by first | exact hf | exact hf.2 | exact hf.2.2)
           go_simp
           refine (unhide ((unhide HSR) y)).mono ?_
           rintro r w1 ⟨rfl,hb1⟩
           exact ⟨_,rfl,far_below hb1,rfl⟩
          ·clear hb
           have hg:a'.tmps[56]? = some (.bool true):=tmpB (by first | exact hf | exact hf.2 | exact hf.2.2)
           rw [if_pos (by go_simp)]
           exact oper_load_sec (.tmp 2) rfl w.heap.size (by simp [Act.eval,hf]) 214 S hS (unhide Y0) ⟨_,rfl,Far.refl _ _,rfl⟩
          ·clear hb
           have hg:a'.tmps[56]? = some (.bool true):=tmpB (by first | exact hf | exact hf.2 | exact hf.2.2)
           have heqy:=(unhide HEQ) y
           go_simp
           first | exact Far.refl _ _ | exact ⟨_,rfl,Far.refl _ _,rfl⟩
          ·clear hb
           go_simp
           first | exact Far.refl _ _ | exact ⟨_,rfl,Far.refl _ _,rfl⟩
          ·have y1:=hb.blk (unhide U1) (by
            rintro ⟨q,hq,g1,g2,g3⟩
            simp at hq
            subst hq
            exact g1 rfl)
           clear hb
           rw [if_pos (by rfl)]
           refine wp_store_row 150 (.tmp 4) (.tmp 47) rfl (w.heap.size+1) #[.int .i64 sm,.int .i64 q,.string b] (by simp [Act.eval,hf]) (by simp [Act.eval,hf]) 150 _ y1 (by rw [size_rec];rfl) (by simp) (by rw [Array.all_eq_true_iff_forall_mem];intro u hu;simp at hu;rcases hu with rfl | rfl | rfl <;> rfl) ?_
           exact ⟨_,rfl,footOf_of (.head _) (far_setRow _ _ _),setRow_heap _ _ _ _ _ _ y1⟩
          ·clear hb
           go_simp
           first | exact Far.refl _ _ | exact ⟨_,rfl,Far.refl _ _,rfl⟩
         ·intro f y hF hwd
          have h16:=hwd.2.2.2.2.2.2.2.2.2.2.2.2.2.2.2.2.1
          have h17:=hwd.2.2.2.2.2.2.2.2.2.2.2.2.2.2.2.2.2.1
          have k0:y.cell? ⟨w.heap.size+1,0,none⟩=some (.int .i64 sm):=blk_cell (i:=0) h16
          have k1:y.cell? ⟨w.heap.size+1,1,none⟩=some (.int .i64 q):=blk_cell (i:=1) h16
          have k2:y.cell? ⟨w.heap.size+1,2,none⟩=some (.string b):=blk_cell (i:=2) h16
          have HBV:=hide ((unhide HBU).trans (hF.below (unhide HBU).size (fun k hk h => by
           obtain ⟨q,hq,h⟩:=h
           simp at hq
           subst hq
           have h:k=w.heap.size+1:=h
           omega)))
          clear hwd hF h16
          simp only [mergeT,h17]
          generalize f 47=x47
          generalize f 48=x48
          generalize f 49=x49
          generalize f 50=x50
          generalize f 51=x51
          generalize f 52=x52
          generalize f 53=x53
          generalize f 54=x54
          generalize f 55=x55
          generalize f 56=x56
          generalize f 57=x57
          generalize f 58=x58
          generalize f 59=x59
          generalize f 60=x60
          generalize f 61=x61
          generalize f 62=x62
          go_simp
          go_wp2
          have hko:ok=decide (T=S):=by
           rw [unhide HOK,decide_eq_true (show ln ≤ 20 by omega),decide_eq_true (show sm < 3 by omega),decide_eq_true (show 1 ≤ q by omega),decide_eq_true (show q ≤ 2147483647 by omega),his,decide_eq_true (show o ≤ last by omega)]
           rfl
          refine bodyPost_ret (v:=.tuple #[.agg #[.int .i64 sm,.int .i64 q,.string b],.bool (decide (T=S))]) (by simp [results,Tryz.results162,go_sem,k0,k1,k2]) rfl ⟨⟨sm,q,b⟩,(by rw [hko];rfl),(fun _ => rfl),unhide HBV⟩
        ·refine wp_region_foot (by kernel_rfl)
          [fun v _ => v = .agg #[.int .i64 sm,.int .i64 q,.string b],fun v _ => v = .agg #[.int .u32 o,.int .u64 c],fun v _ => v = .bool true,fun v _ => v = .bool true,fun v _ => v = .pointer (some ⟨g8,0,none⟩),fun v _ => v = .int .u32 o,fun v _ => v = .int .u32 last,fun v _ => v = .bool false,fun v _ => v = .bool false,fun v _ => v = .bool false,fun _ _ => True,fun _ _ => True,fun _ _ => True,fun _ _ => True,fun _ _ => True,fun v _ => v = .bool (false),fun _ y => y.heap[w.heap.size+1]? = some (.cells #[.int .i64 sm,.int .i64 q,.string b] 150 (0,0)),fun v _ => v = .bool (false)]
          [[(9,none)],[(8,none)],[(48,some 1)],[(49,some 2)],[(8,none),(50,some 3)],[(51,some 4),(50,some 3)],[(1,none),(50,some 3)],[(52,some 5),(53,some 6),(50,some 3)],[(50,some 3),(54,some 7)],[(55,some 8)],[(8,none),(56,some 9)],[(9,none),(56,some 9)],[(57,some 10),(58,some 11),(56,some 9)],[(2,none),(56,some 9)],[(59,some 12),(60,some 13),(56,some 9)],[(56,some 9),(61,some 14)],[(4,none),(47,some 0)],[(62,some 15)]] [some 47,some 48,some 49,some 50,some 51,some 52,some 53,some 54,some 55,some 56,some 57,some 58,some 59,some 60,some 61,some 62,none,some 5] [false,false,false,false,false,true,false,false,false,false,false,false,false,false,false,false,false,false,false,false,false,false,false,false,false,false,false,false,false,false,false,false,false,false,false,false,false,false,false,false,false,false,false,false,false,false,false,true,true,true,true,true,true,true,true,true,true,true,true,true,true,true,true]
          [(16,fun k => k=w.heap.size+1)]
          (by kernel_rfl) (by kernel_rfl) (by kernel_rfl) (by kernel_rfl) (by kernel_rfl) ?_ ?_ ?_ ?_
         ·repeat' (first | exact stable_eq _ | exact stable_true | exact stable_blk _ _ | exact trivial | apply And.intro)
         ·repeat' (first | exact trivial | exact .inl rfl | exact .inr (.inr (stableF_eq _ _)) | exact .inr (.inr (fun _ _ _ _ _ => trivial)) | apply And.intro)
         ·refine ⟨?_,?_,?_,?_,?_,?_,?_,?_,?_,?_,?_,?_,?_,?_,?_,?_,?_,?_,trivial⟩
          all_goals
           intro a' y hb hf
           have y0:=hb.blk (unhide U0) (footBut_no (by intro q hq;simp at hq;subst hq;intro (e:w.heap.size=w.heap.size+1);omega))
           have y8:=hb.blk (unhide U8) (footBut_no (by intro q hq;simp at hq;subst hq;intro (e:g8=w.heap.size+1);omega))
           have y9:=hb.blk (unhide U9) (footBut_no (by intro q hq;simp at hq;subst hq;intro (e:g9=w.heap.size+1);omega))
           have e0:y.cell? ⟨g8,0,none⟩=some (.int .u32 o):=blk_cell (i:=0) y8
           have e1:y.cell? ⟨g8,1,none⟩=some (.int .u64 c):=blk_cell (i:=1) y8
           have r0:y.cell? ⟨g9,0,none⟩=some (.int .i64 sm):=blk_cell (i:=0) y9
           have r1:y.cell? ⟨g9,1,none⟩=some (.int .i64 q):=blk_cell (i:=1) y9
           have r2:y.cell? ⟨g9,2,none⟩=some (.string b):=blk_cell (i:=2) y9
           have Y0:=hide y0
           clear y0 y8 y9
           simp only [PlanFacts,List.getD_cons_zero,List.getD_cons_succ,Array.getD_eq_getD_getElem?] at hf
           try simp at hf
          iterate 2
           ·clear hb
            go_simp
            first | exact Far.refl _ _ | exact ⟨_,rfl,Far.refl _ _,rfl⟩
          ·clear hb
           go_simp
           refine (unhide (hIS y)).mono ?_
           rintro r w1 ⟨rfl,hb1⟩
           exact ⟨_,rfl,far_below hb1,(by rw [his];rfl)⟩
          ·clear hb
           go_simp
           first | exact Far.refl _ _ | exact ⟨_,rfl,Far.refl _ _,rfl⟩
          iterate 4
           ·clear hb
            have hg:a'.tmps[50]? = some (.bool true):=tmpB (by first | exact hf | exact hf.2 | exact hf.2.2)
            go_simp
            first | exact Far.refl _ _ | exact ⟨_,rfl,Far.refl _ _,rfl⟩
          iterate 2
           ·clear hb
            go_simp
            first | exact Far.refl _ _ | exact ⟨_,rfl,Far.refl _ _,rfl⟩
          iterate 5
           ·clear hb
            have hg:a'.tmps[56]? = some (.bool false):=tmpB (by first | exact hf | exact hf.2 | exact hf.2.2)
            go_simp
            try trivial
          ·clear hb
           go_simp
           first | exact Far.refl _ _ | exact ⟨_,rfl,Far.refl _ _,rfl⟩
          ·have y1:=hb.blk (unhide U1) (by
            rintro ⟨q,hq,g1,g2,g3⟩
            simp at hq
            subst hq
            exact g1 rfl)
           clear hb
           rw [if_pos (by rfl)]
           refine wp_store_row 150 (.tmp 4) (.tmp 47) rfl (w.heap.size+1) #[.int .i64 sm,.int .i64 q,.string b] (by simp [Act.eval,hf]) (by simp [Act.eval,hf]) 150 _ y1 (by rw [size_rec];rfl) (by simp) (by rw [Array.all_eq_true_iff_forall_mem];intro u hu;simp at hu;rcases hu with rfl | rfl | rfl <;> rfl) ?_
           exact ⟨_,rfl,footOf_of (.head _) (far_setRow _ _ _),setRow_heap _ _ _ _ _ _ y1⟩
          ·clear hb
           go_simp
           first | exact Far.refl _ _ | exact ⟨_,rfl,Far.refl _ _,rfl⟩
         ·intro f y hF hwd
          have h16:=hwd.2.2.2.2.2.2.2.2.2.2.2.2.2.2.2.2.1
          have h17:=hwd.2.2.2.2.2.2.2.2.2.2.2.2.2.2.2.2.2.1
          have k0:y.cell? ⟨w.heap.size+1,0,none⟩=some (.int .i64 sm):=blk_cell (i:=0) h16
          have k1:y.cell? ⟨w.heap.size+1,1,none⟩=some (.int .i64 q):=blk_cell (i:=1) h16
          have k2:y.cell? ⟨w.heap.size+1,2,none⟩=some (.string b):=blk_cell (i:=2) h16
          have HBV:=hide ((unhide HBU).trans (hF.below (unhide HBU).size (fun k hk h => by
           obtain ⟨q,hq,h⟩:=h
           simp at hq
           subst hq
           have h:k=w.heap.size+1:=h
           omega)))
          clear hwd hF h16
          simp only [mergeT,h17]
          generalize f 47=x47
          generalize f 48=x48
          generalize f 49=x49
          generalize f 50=x50
          generalize f 51=x51
          generalize f 52=x52
          generalize f 53=x53
          generalize f 54=x54
          generalize f 55=x55
          generalize f 56=x56
          generalize f 57=x57
          generalize f 58=x58
          generalize f 59=x59
          generalize f 60=x60
          generalize f 61=x61
          generalize f 62=x62
          go_simp
          go_wp2
          have hko:ok=false:=by
           rw [unhide HOK,decide_eq_true (show ln ≤ 20 by omega),decide_eq_true (show sm < 3 by omega),decide_eq_true (show 1 ≤ q by omega),decide_eq_true (show q ≤ 2147483647 by omega),his,decide_eq_false (show ¬ o ≤ last by omega)]
           rfl
          refine bodyPost_ret (v:=.tuple #[.agg #[.int .i64 sm,.int .i64 q,.string b],.bool (false)]) (by simp [results,Tryz.results162,go_sem,k0,k1,k2]) rfl ⟨⟨sm,q,b⟩,(by rw [hko];rfl),(fun _ => rfl),unhide HBV⟩
end Go.Proofs.YtamafdcnbcoegabGreat
namespace Go.Proofs.YtamafdcnbcoegabGreat
open Go.RowKit
set_option maxRecDepth 100000 in
theorem eq_head_no (o c a b d:Nat) (ho:o ≠ 0) (w:World):(Op.equalIn 10000 199 (.agg #[.int .u32 o,.int .u64 c,.int .i64 a,.int .i64 b,.int .i64 d]) (.agg #[.int .u32 0,.int .u64 0,.int .i64 0,.int .i64 0,.int .i64 0])).run Tryz.prog w = .ok false w:=by
 have hne:((o:Int) == 0)=false:=by simp;omega
 rw [run_equalIn_struct w 9999 199 _ _ (by kernel_rfl) (by kernel_rfl)]
 simp [go_sem,hne]
theorem mod_newer (h g:Mod.Hd):Mod.newer h.o h.c g.o g.c=Mod.newer2 h g:=rfl
def NhOut (L:List UInt8) (w:World) (r:Ending) (w':World):Prop :=
 ∃ (h:Mod.Hd) (k:Nat),r = .returned (.tuple #[hdVal h,.int .i64 k,.bool (Mod.newest L).isSome])∧(∀ h' k',Mod.newest L=some (h',k')→h=h' ∧ k=k')∧Below w.heap.size w w'
theorem nhOut_no {L:List UInt8} {w y:World} (h:Mod.newest L=none) (h2:Mod.Hd) (k:Nat) (hb:Below w.heap.size w y):NhOut L w (.returned (.tuple #[hdVal h2,.int .i64 k,.bool false])) y :=
 ⟨h2,k,(by rw [h];rfl),(fun h' k' e => (by rw [h] at e;cases e)),hb⟩
theorem nhOut_yes {L:List UInt8} {w y:World} {h2:Mod.Hd} {k:Nat} (h:Mod.newest L=some (h2,k)) (hb:Below w.heap.size w y):NhOut L w (.returned (.tuple #[hdVal h2,.int .i64 k,.bool true])) y :=
 ⟨h2,k,(by rw [h];rfl),(fun h' k' e => (by rw [h] at e;cases e;exact ⟨rfl,rfl⟩)),hb⟩
theorem below_set5 {w z:World} {g:Nat} (hb:Below w.heap.size w z) (hg:w.heap.size ≤ g) (a b c d e:Value):Below w.heap.size w (((((z.setCell ⟨g,0,none⟩ a).setCell ⟨g,1,none⟩ b).setCell ⟨g,2,none⟩ c).setCell ⟨g,3,none⟩ d).setCell ⟨g,4,none⟩ e) :=
 ((((hb.setCell (p:=⟨g,0,none⟩) hg _).setCell (p:=⟨g,1,none⟩) hg _).setCell (p:=⟨g,2,none⟩) hg _).setCell (p:=⟨g,3,none⟩) hg _).setCell (p:=⟨g,4,none⟩) hg _
set_option maxRecDepth 100000 in
set_option maxHeartbeats 4000000 in
theorem newestHead_any (w:World) (v:Value) (L:List UInt8) (hat:BytesAt w v L) (hn1:128 ≤ L.length) (hn2:L.length ≤ 10000) :
  Calls Tryz.prog 111 #[v] w (NhOut L w):=by
 have hS:=fun (k:Nat) (hk:64 * k+64 ≤ L.length) y (hb:Below w.heap.size w y) => hide (sectorAt_any y v L k (hat.below hb) hk hn2)
 have hS0:=hS 0 (by omega)
 have hS1:=hS 1 (by omega)
 have hR0:=fun y => hide (readHead_any (Mod.sec L 0) (Mod.length_sec (by omega)) y)
 have hR1:=fun y => hide (readHead_any (Mod.sec L 1) (Mod.length_sec (by omega)) y)
 have hnw:Mod.newest L=if Mod.headOk (Mod.sec L 0)=true∧Mod.headOk (Mod.sec L 1)=true then
  if Mod.newer2 (Mod.headIs (Mod.sec L 1)) (Mod.headIs (Mod.sec L 0))=true then some (Mod.headIs (Mod.sec L 1),1)
  else if Mod.newer2 (Mod.headIs (Mod.sec L 0)) (Mod.headIs (Mod.sec L 1))=true then some (Mod.headIs (Mod.sec L 0),0)
  else if (Mod.headIs (Mod.sec L 0)).o=0∧(Mod.headIs (Mod.sec L 1)).o=0 then some (Mod.hd0,0) else none
 else none:=rfl
 have hz0:Mod.headOk (Mod.sec L 0)=true→(Mod.headIs (Mod.sec L 0)).o=0→Mod.headIs (Mod.sec L 0)=Mod.hd0:=fun h e => by
  rcases Mod.headOk_some h with ⟨_,e2⟩ | ⟨e2,_⟩
  ·exact e2
  ·rw [e] at e2;cases e2
 have hz1:Mod.headOk (Mod.sec L 1)=true→(Mod.headIs (Mod.sec L 1)).o=0→Mod.headIs (Mod.sec L 1)=Mod.hd0:=fun h e => by
  rcases Mod.headOk_some h with ⟨_,e2⟩ | ⟨e2,_⟩
  ·exact e2
  ·rw [e] at e2;cases e2
 obtain ⟨S0,hS0d⟩:∃ S0,S0=Mod.sec L 0:=⟨_,rfl⟩
 obtain ⟨S1,hS1d⟩:∃ S1,S1=Mod.sec L 1:=⟨_,rfl⟩
 unfold Mod.sec at hS0d hS1d
 rw [← hS0d] at hS0
 rw [← hS1d] at hS1
 have e0:Mod.sec L 0=S0:=hS0d.symm
 have e1:Mod.sec L 1=S1:=hS1d.symm
 rw [e0] at hR0 hnw hz0
 rw [e1] at hR1 hnw hz1
 clear hS hS0d hS1d e0 e1 hat
 generalize Mod.headOk S0=k0 at *
 generalize Mod.headOk S1=k1 at *
 generalize Mod.headIs S0=F at *
 generalize Mod.headIs S1=G at *
 have HNW:=hide hnw
 have HZ0:=hide hz0
 have HZ1:=hide hz1
 clear hnw hz0 hz1
 go_enter Tryz.func111,Tryz.ntmps111
 go_upto_region 2 with (first
  | (go_at_call 160;refine (unhide (hS0 _ ((Below.refl _ _).alloc (Nat.le_refl _) _))).mono ?_;rintro r y ⟨rfl,hb1⟩)
  | (go_at_call 159;refine (unhide (hR0 _)).mono ?_;rintro r y2 ⟨f,rfl,hf0,hb2⟩;unfold hdVal))
 have HF0:=hide hf0
 clear hf0
 have hz1:=hb1.size
 have hz2:=hb2.size
 simp only [World.size_alloc] at hz1
 have hy2:y2.heap[w.heap.size]? = some (.cells #[.int .u32 0,.int .u64 0,.int .i64 0,.int .i64 0,.int .i64 0] 199 (0,0)):=(hb2.block _ (by omega)).trans ((hb1.block _ (by simp)).trans (heap_alloc_new w _))
 have hBy:Below w.heap.size w y2:=(((Below.refl _ _).alloc (Nat.le_refl _) _).trans (hb1.mono (by simp))).trans (hb2.mono (by omega))
 obtain ⟨g5,hg5⟩:∃ g,g=y2.heap.size:=⟨_,rfl⟩
 rw [← hg5]
 refine wp_world (fun x => x.heap[w.heap.size]? = some (.cells #[.int .u32 0,.int .u64 0,.int .i64 0,.int .i64 0,.int .i64 0] 199 (0,0))∧x.heap[g5]? = some (.cells #[.int .u32 f.o,.int .u64 f.c,.int .i64 f.a,.int .i64 f.b,.int .i64 f.d] 199 (0,0))∧Below w.heap.size w x) ?_ ?_
 ·exact ⟨(hao _ _ (by omega)).trans hy2,by rw [hg5];exact heap_alloc_new _ _,hBy.alloc (by omega) _⟩
 have hg5w:w.heap.size < g5:=by omega
 clear hy2 hBy hz1 hz2 hb1 hb2 hg5
 rintro x ⟨h0,h5,hB⟩
 have H0:=hide h0
 have H5:=hide h5
 have HB:=hide hB
 have hzx:=lt_of_block h5
 clear h0 h5 hB
 go_upto_region 3 with (first
  | (go_at_call 160;refine (unhide (hS1 x (unhide HB))).mono ?_;rintro r y3 ⟨rfl,hb3⟩)
  | (go_at_call 159;refine (unhide (hR1 _)).mono ?_;rintro r y4 ⟨s,rfl,hf1,hb4⟩;unfold hdVal))
 have HF1:=hide hf1
 have hz3:=hb3.size
 have hz4:=hb4.size
 obtain ⟨g7,hg7⟩:∃ g,g=y4.heap.size:=⟨_,rfl⟩
 rw [← hg7]
 refine wp_world (fun x => x.heap[w.heap.size]? = some (.cells #[.int .u32 0,.int .u64 0,.int .i64 0,.int .i64 0,.int .i64 0] 199 (0,0))∧x.heap[g5]? = some (.cells #[.int .u32 f.o,.int .u64 f.c,.int .i64 f.a,.int .i64 f.b,.int .i64 f.d] 199 (0,0))∧x.heap[g7]? = some (.cells #[.int .u32 s.o,.int .u64 s.c,.int .i64 s.a,.int .i64 s.b,.int .i64 s.d] 199 (0,0))∧Below w.heap.size w x) ?_ ?_
 ·have hb:Below x.heap.size x y4:=hb3.trans (hb4.mono hz3)
  exact ⟨(hao _ _ (by omega)).trans ((hb.block _ (by omega)).trans (unhide H0)),(hao _ _ (by omega)).trans ((hb.block _ (by omega)).trans (unhide H5)),by rw [hg7];exact heap_alloc_new _ _,((unhide HB).trans (hb.mono (by omega))).alloc (by omega) _⟩
 have hg57:g5 < g7:=by omega
 clear H0 H5 HB hb3 hb4 hz3 hz4 hg7 hzx hf1 hS0 hS1 hR0 hR1
 rintro x2 ⟨h0,h5,h7,hB⟩
 have q0:x2.cell? ⟨w.heap.size,0,none⟩=some (.int .u32 0):=blk_cell (i:=0) h0
 have q1:x2.cell? ⟨w.heap.size,1,none⟩=some (.int .u64 0):=blk_cell (i:=1) h0
 have q2:x2.cell? ⟨w.heap.size,2,none⟩=some (.int .i64 0):=blk_cell (i:=2) h0
 have q3:x2.cell? ⟨w.heap.size,3,none⟩=some (.int .i64 0):=blk_cell (i:=3) h0
 have q4:x2.cell? ⟨w.heap.size,4,none⟩=some (.int .i64 0):=blk_cell (i:=4) h0
 have p0:∀ i,x2.frozen? ⟨w.heap.size,i,none⟩=false:=fun i => blk_free h0
 have e50:x2.cell? ⟨g5,0,none⟩=some (.int .u32 f.o):=blk_cell (i:=0) h5
 have e51:x2.cell? ⟨g5,1,none⟩=some (.int .u64 f.c):=blk_cell (i:=1) h5
 have e70:x2.cell? ⟨g7,0,none⟩=some (.int .u32 s.o):=blk_cell (i:=0) h7
 have e71:x2.cell? ⟨g7,1,none⟩=some (.int .u64 s.c):=blk_cell (i:=1) h7
 have H0:=hide h0
 have H5:=hide h5
 have H7:=hide h7
 have HB:=hide hB
 have hz7:=lt_of_block h7
 clear h0 h5 h7 hB
 cases k0 with
 | false =>
  clear HF0 HF1 HZ0 HZ1 e50 e51 e70 e71 H5 H7
  go_wp2
  refine bodyPost_ret (v:=.tuple #[.agg #[.int .u32 0,.int .u64 0,.int .i64 0,.int .i64 0,.int .i64 0],.int .i64 0,.bool false]) (by simp [results,Tryz.results111,go_sem,q0,q1,q2,q3,q4]) rfl ?_
  exact nhOut_no (by rw [unhide HNW];simp) Mod.hd0 0 (below_set5 (unhide HB) (Nat.le_refl _) _ _ _ _ _)
 | true =>
  obtain rfl:f=F:=(unhide HF0) rfl
  cases k1 with
  | false =>
   clear HF0 HF1 HZ0 HZ1 e50 e51 e70 e71 H5 H7
   go_wp2
   refine bodyPost_ret (v:=.tuple #[.agg #[.int .u32 0,.int .u64 0,.int .i64 0,.int .i64 0,.int .i64 0],.int .i64 0,.bool false]) (by simp [results,Tryz.results111,go_sem,q0,q1,q2,q3,q4]) rfl ?_
   exact nhOut_no (by rw [unhide HNW];simp) Mod.hd0 0 (below_set5 (unhide HB) (Nat.le_refl _) _ _ _ _ _)
  | true =>
   obtain rfl:s=G:=(unhide HF1) rfl
   have hN:=fun y => hide (isNewer_any s.o s.c f.o f.c y)
   have hM:=fun y => hide (isNewer_any f.o f.c s.o s.c y)
   rw [mod_newer] at hN hM
   cases n1:Mod.newer2 s f with
   | true =>
    go_upto_region 6 with (go_at_call 161;refine (unhide (hN _)).mono ?_;rw [n1];rintro r y5 ⟨rfl,hb5⟩)
    have hz5:=hb5.size
    have b0:=(hb5.block _ (by omega)).trans (unhide H0)
    have b5:=(hb5.block _ (by omega)).trans (unhide H5)
    have b7:=(hb5.block _ (by omega)).trans (unhide H7)
    have HBY:=hide ((unhide HB).trans (hb5.mono (unhide HB).size))
    clear hb5 e50 e51 e70 e71 q0 q1 q2 q3 q4 p0 hN hM HZ0 HZ1
    have e0:y5.cell? ⟨g7,0,none⟩=some (.int .u32 s.o):=blk_cell (i:=0) b7
    have e1:y5.cell? ⟨g7,1,none⟩=some (.int .u64 s.c):=blk_cell (i:=1) b7
    have e2:y5.cell? ⟨g7,2,none⟩=some (.int .i64 s.a):=blk_cell (i:=2) b7
    have e3:y5.cell? ⟨g7,3,none⟩=some (.int .i64 s.b):=blk_cell (i:=3) b7
    have e4:y5.cell? ⟨g7,4,none⟩=some (.int .i64 s.d):=blk_cell (i:=4) b7
    have q0:y5.cell? ⟨w.heap.size,0,none⟩=some (.int .u32 0):=blk_cell (i:=0) b0
    have q1:y5.cell? ⟨w.heap.size,1,none⟩=some (.int .u64 0):=blk_cell (i:=1) b0
    have q2:y5.cell? ⟨w.heap.size,2,none⟩=some (.int .i64 0):=blk_cell (i:=2) b0
    have q3:y5.cell? ⟨w.heap.size,3,none⟩=some (.int .i64 0):=blk_cell (i:=3) b0
    have q4:y5.cell? ⟨w.heap.size,4,none⟩=some (.int .i64 0):=blk_cell (i:=4) b0
    have p0:∀ i,y5.frozen? ⟨w.heap.size,i,none⟩=false:=fun i => blk_free b0
    clear b0 b5 b7 H0 H5 H7 HB
    have HN1:=hide n1
    clear n1
    go_wp2
    refine bodyPost_ret (v:=.tuple #[.agg #[.int .u32 s.o,.int .u64 s.c,.int .i64 s.a,.int .i64 s.b,.int .i64 s.d],.int .i64 1,.bool true]) (by simp [results,Tryz.results111,go_sem,q0,q1,q2,q3,q4]) rfl ?_
    exact nhOut_yes (by rw [unhide HNW,unhide HN1];simp) (below_set5 (unhide HBY) (Nat.le_refl _) _ _ _ _ _)
   | false =>
    cases n2:Mod.newer2 f s with
    | true =>
     go_upto_region 7 with (go_at_call 161;refine (unhide (hN _)).mono ?_;rw [n1];rintro r y5 ⟨rfl,hb5⟩)
     have e50:=(hb5.cell (p:=⟨g5,0,none⟩) (by show g5 < _;omega)).trans e50
     have e51:=(hb5.cell (p:=⟨g5,1,none⟩) (by show g5 < _;omega)).trans e51
     have e70:=(hb5.cell (p:=⟨g7,0,none⟩) (by show g7 < _;omega)).trans e70
     have e71:=(hb5.cell (p:=⟨g7,1,none⟩) (by show g7 < _;omega)).trans e71
     have hzx5:=hb5.size
     have HB5:=hide hb5
     clear hb5
     go_upto_region 8 with (go_at_call 161;refine (unhide (hM _)).mono ?_;rw [n2];rintro r y6 ⟨rfl,hb6⟩)
     have hb:Below x2.heap.size x2 y6:=(unhide HB5).trans (hb6.mono hzx5)
     clear hb6 HB5
     have hz5:=hb.size
     have b0:=(hb.block _ (by omega)).trans (unhide H0)
     have b5:=(hb.block _ (by omega)).trans (unhide H5)
     have b7:=(hb.block _ (by omega)).trans (unhide H7)
     have HBY:=hide ((unhide HB).trans (hb.mono (unhide HB).size))
     clear hb e50 e51 e70 e71 q0 q1 q2 q3 q4 p0 hN hM HZ0 HZ1
     have e0:y6.cell? ⟨g5,0,none⟩=some (.int .u32 f.o):=blk_cell (i:=0) b5
     have e1:y6.cell? ⟨g5,1,none⟩=some (.int .u64 f.c):=blk_cell (i:=1) b5
     have e2:y6.cell? ⟨g5,2,none⟩=some (.int .i64 f.a):=blk_cell (i:=2) b5
     have e3:y6.cell? ⟨g5,3,none⟩=some (.int .i64 f.b):=blk_cell (i:=3) b5
     have e4:y6.cell? ⟨g5,4,none⟩=some (.int .i64 f.d):=blk_cell (i:=4) b5
     have q0:y6.cell? ⟨w.heap.size,0,none⟩=some (.int .u32 0):=blk_cell (i:=0) b0
     have q1:y6.cell? ⟨w.heap.size,1,none⟩=some (.int .u64 0):=blk_cell (i:=1) b0
     have q2:y6.cell? ⟨w.heap.size,2,none⟩=some (.int .i64 0):=blk_cell (i:=2) b0
     have q3:y6.cell? ⟨w.heap.size,3,none⟩=some (.int .i64 0):=blk_cell (i:=3) b0
     have q4:y6.cell? ⟨w.heap.size,4,none⟩=some (.int .i64 0):=blk_cell (i:=4) b0
     have p0:∀ i,y6.frozen? ⟨w.heap.size,i,none⟩=false:=fun i => blk_free b0
     clear b0 b5 b7 H0 H5 H7 HB
     have HN1:=hide (And.intro n1 n2)
     clear n1 n2
     go_wp2
     refine bodyPost_ret (v:=.tuple #[.agg #[.int .u32 f.o,.int .u64 f.c,.int .i64 f.a,.int .i64 f.b,.int .i64 f.d],.int .i64 0,.bool true]) (by simp [results,Tryz.results111,go_sem,q0,q1,q2,q3,q4]) rfl ?_
     exact nhOut_yes (by rw [unhide HNW,(unhide HN1).1,(unhide HN1).2];simp) (below_set5 (unhide HBY) (Nat.le_refl _) _ _ _ _ _)
    | false =>
     go_upto_region 7 with (go_at_call 161;refine (unhide (hN _)).mono ?_;rw [n1];rintro r y5 ⟨rfl,hb5⟩)
     have e50:=(hb5.cell (p:=⟨g5,0,none⟩) (by show g5 < _;omega)).trans e50
     have e51:=(hb5.cell (p:=⟨g5,1,none⟩) (by show g5 < _;omega)).trans e51
     have e70:=(hb5.cell (p:=⟨g7,0,none⟩) (by show g7 < _;omega)).trans e70
     have e71:=(hb5.cell (p:=⟨g7,1,none⟩) (by show g7 < _;omega)).trans e71
     have hzx5:=hb5.size
     have HB5:=hide hb5
     clear hb5
     go_upto_region 9 with (go_at_call 161;refine (unhide (hM _)).mono ?_;rw [n2];rintro r y6 ⟨rfl,hb6⟩)
     have hb:Below x2.heap.size x2 y6:=(unhide HB5).trans (hb6.mono hzx5)
     clear hb6 HB5
     have hz5:=hb.size
     have H0:=hide ((hb.block _ (by omega)).trans (unhide H0))
     have H5:=hide ((hb.block _ (by omega)).trans (unhide H5))
     have H7:=hide ((hb.block _ (by omega)).trans (unhide H7))
     have HBY:=hide ((unhide HB).trans (hb.mono (unhide HB).size))
     clear hb e50 e51 e70 e71 q0 q1 q2 q3 q4 p0 hN hM HB
     by_cases hfo:f.o=0
     ·have hso:s.o=0:=by
       have ef:=(unhide HZ0) (by trivial) hfo
       rw [ef] at n1
       unfold Mod.newer2 Mod.hd0 at n1
       simp only at n1
       by_cases h:s.o=0
       ·exact h
       ·rw [if_pos h,decide_eq_true (by omega)] at n1
        cases n1
      have ef:=(unhide HZ0) (by trivial) hfo
      have es:=(unhide HZ1) (by trivial) hso
      have HNN:Hid (Mod.newest L=some (Mod.hd0,0)):=by
       show _=_
       rw [unhide HNW,n1,n2];simp [hfo,hso]
      rw [ef] at H5
      rw [es] at H7
      clear HNW HZ0 HZ1 HF0 HF1 n1 n2 ef es hfo hso
      have heq:∀ y:World,(Op.equalIn 10000 199 (.agg #[.int .u32 0,.int .u64 0,.int .i64 0,.int .i64 0,.int .i64 0]) (.agg #[.int .u32 0,.int .u64 0,.int .i64 0,.int .i64 0,.int .i64 0])).run Tryz.prog y = .ok true y:=fun y => by kernel_rfl
      refine wp_region_foot (by kernel_rfl)
       [fun v _ => v = .agg #[.int .u32 0,.int .u64 0,.int .i64 0,.int .i64 0,.int .i64 0],fun v _ => v = .agg #[.int .u32 0,.int .u64 0,.int .i64 0,.int .i64 0,.int .i64 0],fun v _ => v = .agg #[.int .u32 0,.int .u64 0,.int .i64 0,.int .i64 0,.int .i64 0],fun v _ => v = .bool true,fun v _ => v = .bool true,fun v _ => v = .agg #[.int .u32 0,.int .u64 0,.int .i64 0,.int .i64 0,.int .i64 0],fun v _ => v = .agg #[.int .u32 0,.int .u64 0,.int .i64 0,.int .i64 0,.int .i64 0],fun v _ => v = .bool true,fun v _ => v = .bool true,fun _ z => z.heap[w.heap.size]? = some (.cells #[.int .u32 0,.int .u64 0,.int .i64 0,.int .i64 0,.int .i64 0] 199 (0,0)),fun v _ => v = .int .i64 0,fun v _ => v = .bool true]
       [[],[(5,none)],[],[(44,some 1),(45,some 2)],[(46,some 3)],[(7,none),(47,some 4)],[(47,some 4)],[(48,some 5),(49,some 6),(47,some 4)],[(47,some 4),(50,some 7)],[(2,none),(43,some 0)],[],[(51,some 8)]] [some 43,some 44,some 45,some 46,some 47,some 48,some 49,some 50,some 51,none,some 3,some 4] [false,false,false,true,true,false,false,false,false,false,false,false,false,false,false,false,false,false,false,false,false,false,false,false,false,false,false,false,false,false,false,false,false,false,false,false,false,false,false,false,false,false,false,true,true,true,true,true,true,true,true,true]
       [(9,fun k => k=w.heap.size)]
       (by kernel_rfl) (by kernel_rfl) (by kernel_rfl) (by kernel_rfl) (by kernel_rfl) ?_ ?_ ?_ ?_
      ·repeat' (first | exact stable_eq _ | exact stable_true | exact stable_blk _ _ | exact trivial | apply And.intro)
      ·repeat' (first | exact trivial | exact .inl rfl | exact .inr (.inr (stableF_eq _ _)) | exact .inr (.inr (fun _ _ _ _ _ => trivial)) | apply And.intro)
      ·refine ⟨?_,?_,?_,?_,?_,?_,?_,?_,?_,?_,?_,?_,trivial⟩
       all_goals
        intro a z hb hf
        have z5:=hb.blk (unhide H5) (footBut_no (by intro q hq;simp at hq;subst hq;intro (e:g5=w.heap.size);omega))
        have z7:=hb.blk (unhide H7) (footBut_no (by intro q hq;simp at hq;subst hq;intro (e:g7=w.heap.size);omega))
        have e50:z.cell? ⟨g5,0,none⟩=some (.int .u32 0):=blk_cell (i:=0) z5
        have e70:z.cell? ⟨g7,0,none⟩=some (.int .u32 0):=blk_cell (i:=0) z7
        have e51:z.cell? ⟨g5,1,none⟩=some (.int .u64 0):=blk_cell (i:=1) z5
        have e71:z.cell? ⟨g7,1,none⟩=some (.int .u64 0):=blk_cell (i:=1) z7
        have e52:z.cell? ⟨g5,2,none⟩=some (.int .i64 0):=blk_cell (i:=2) z5
        have e72:z.cell? ⟨g7,2,none⟩=some (.int .i64 0):=blk_cell (i:=2) z7
        have e53:z.cell? ⟨g5,3,none⟩=some (.int .i64 0):=blk_cell (i:=3) z5
        have e73:z.cell? ⟨g7,3,none⟩=some (.int .i64 0):=blk_cell (i:=3) z7
        have e54:z.cell? ⟨g5,4,none⟩=some (.int .i64 0):=blk_cell (i:=4) z5
        have e74:z.cell? ⟨g7,4,none⟩=some (.int .i64 0):=blk_cell (i:=4) z7
        clear z5 z7
        simp only [PlanFacts,List.getD_cons_zero,List.getD_cons_succ,Array.getD_eq_getD_getElem?] at hf
        try simp at hf
       iterate 5
        ·clear hb
         go_simp
         exact ⟨_,rfl,Far.refl _ _,rfl⟩
       iterate 3
        ·clear hb
         have hg:a.tmps[47]? = some (.bool true):=tmpB (by first | exact hf | exact hf.2 | exact hf.2.2)
         go_simp
         exact ⟨_,rfl,Far.refl _ _,rfl⟩
       ·clear hb
        go_simp
        exact ⟨_,rfl,Far.refl _ _,rfl⟩
       ·have z0:=hb.blk (unhide H0) (by
         rintro ⟨q,hq,g1,g2,g3⟩
         simp at hq
         subst hq
         exact g1 rfl)
        clear hb
        rw [if_pos (by rfl)]
        refine wp_store_row 199 (.tmp 2) (.tmp 43) rfl w.heap.size #[.int .u32 0,.int .u64 0,.int .i64 0,.int .i64 0,.int .i64 0] (by simp [Act.eval,hf]) (by simp [Act.eval,hf]) 199 _ z0 (by rw [size_head];rfl) (by simp) (by rw [Array.all_eq_true_iff_forall_mem];intro u hu;simp at hu;rcases hu with rfl | rfl | rfl <;> rfl) ?_
        exact ⟨_,rfl,footOf_of (.head _) (far_setRow _ _ _),setRow_heap _ _ _ _ _ _ z0⟩
       iterate 2
        ·clear hb
         go_simp
         exact ⟨_,rfl,Far.refl _ _,rfl⟩
      ·intro f' z hF hwd
       have h9:=hwd.2.2.2.2.2.2.2.2.2.1
       have h10:=hwd.2.2.2.2.2.2.2.2.2.2.1
       have h11:=hwd.2.2.2.2.2.2.2.2.2.2.2.1
       have q0:z.cell? ⟨w.heap.size,0,none⟩=some (.int .u32 0):=blk_cell (i:=0) h9
       have q1:z.cell? ⟨w.heap.size,1,none⟩=some (.int .u64 0):=blk_cell (i:=1) h9
       have q2:z.cell? ⟨w.heap.size,2,none⟩=some (.int .i64 0):=blk_cell (i:=2) h9
       have q3:z.cell? ⟨w.heap.size,3,none⟩=some (.int .i64 0):=blk_cell (i:=3) h9
       have q4:z.cell? ⟨w.heap.size,4,none⟩=some (.int .i64 0):=blk_cell (i:=4) h9
       have HBZ:=hide ((unhide HBY).trans (hF.below (unhide HBY).size (fun k hk h => by
        obtain ⟨q,hq,h⟩:=h
        simp at hq
        subst hq
        have h:k=w.heap.size:=h
        omega)))
       clear hwd hF h9
       simp only [mergeT,h10,h11]
       generalize f' 43=x43
       generalize f' 44=x44
       generalize f' 45=x45
       generalize f' 46=x46
       generalize f' 47=x47
       generalize f' 48=x48
       generalize f' 49=x49
       generalize f' 50=x50
       generalize f' 51=x51
       go_simp
       go_wp2
       refine bodyPost_ret (v:=.tuple #[.agg #[.int .u32 0,.int .u64 0,.int .i64 0,.int .i64 0,.int .i64 0],.int .i64 0,.bool true]) (by simp [results,Tryz.results111,go_sem,q0,q1,q2,q3,q4]) rfl ?_
       exact nhOut_yes (h2:=Mod.hd0) (unhide HNN) (unhide HBZ)
     ·have HNN:Hid (Mod.newest L=none):=by
       show _=_
       rw [unhide HNW,n1,n2];simp [hfo]
      have heq:=fun y => eq_head_no f.o f.c f.a f.b f.d hfo y
      clear HNW HZ0 HZ1 HF0 HF1 n1 n2 hfo
      refine wp_region_foot (by kernel_rfl)
       [fun v _ => v = .agg #[.int .u32 0,.int .u64 0,.int .i64 0,.int .i64 0,.int .i64 0],fun v _ => v = .agg #[.int .u32 f.o,.int .u64 f.c,.int .i64 f.a,.int .i64 f.b,.int .i64 f.d],fun v _ => v = .agg #[.int .u32 0,.int .u64 0,.int .i64 0,.int .i64 0,.int .i64 0],fun v _ => v = .bool false,fun v _ => v = .bool false,fun _ _ => True,fun _ _ => True,fun _ _ => True,fun v _ => v = .bool false,fun _ z => z.heap[w.heap.size]? = some (.cells #[.int .u32 0,.int .u64 0,.int .i64 0,.int .i64 0,.int .i64 0] 199 (0,0)),fun v _ => v = .int .i64 0,fun v _ => v = .bool false]
       [[],[(5,none)],[],[(44,some 1),(45,some 2)],[(46,some 3)],[(7,none),(47,some 4)],[(47,some 4)],[(48,some 5),(49,some 6),(47,some 4)],[(47,some 4),(50,some 7)],[(2,none),(43,some 0)],[],[(51,some 8)]] [some 43,some 44,some 45,some 46,some 47,some 48,some 49,some 50,some 51,none,some 3,some 4] [false,false,false,true,true,false,false,false,false,false,false,false,false,false,false,false,false,false,false,false,false,false,false,false,false,false,false,false,false,false,false,false,false,false,false,false,false,false,false,false,false,false,false,true,true,true,true,true,true,true,true,true]
       [(9,fun k => k=w.heap.size)]
       (by kernel_rfl) (by kernel_rfl) (by kernel_rfl) (by kernel_rfl) (by kernel_rfl) ?_ ?_ ?_ ?_
      ·repeat' (first | exact stable_eq _ | exact stable_true | exact stable_blk _ _ | exact trivial | apply And.intro)
      ·repeat' (first | exact trivial | exact .inl rfl | exact .inr (.inr (stableF_eq _ _)) | exact .inr (.inr (fun _ _ _ _ _ => trivial)) | apply And.intro)
      ·refine ⟨?_,?_,?_,?_,?_,?_,?_,?_,?_,?_,?_,?_,trivial⟩
       all_goals
        intro a z hb hf
        have z5:=hb.blk (unhide H5) (footBut_no (by intro q hq;simp at hq;subst hq;intro (e:g5=w.heap.size);omega))
        have z7:=hb.blk (unhide H7) (footBut_no (by intro q hq;simp at hq;subst hq;intro (e:g7=w.heap.size);omega))
        have e50:z.cell? ⟨g5,0,none⟩=some (.int .u32 f.o):=blk_cell (i:=0) z5
        have e70:z.cell? ⟨g7,0,none⟩=some (.int .u32 s.o):=blk_cell (i:=0) z7
        have e51:z.cell? ⟨g5,1,none⟩=some (.int .u64 f.c):=blk_cell (i:=1) z5
        have e71:z.cell? ⟨g7,1,none⟩=some (.int .u64 s.c):=blk_cell (i:=1) z7
        have e52:z.cell? ⟨g5,2,none⟩=some (.int .i64 f.a):=blk_cell (i:=2) z5
        have e72:z.cell? ⟨g7,2,none⟩=some (.int .i64 s.a):=blk_cell (i:=2) z7
        have e53:z.cell? ⟨g5,3,none⟩=some (.int .i64 f.b):=blk_cell (i:=3) z5
        have e73:z.cell? ⟨g7,3,none⟩=some (.int .i64 s.b):=blk_cell (i:=3) z7
        have e54:z.cell? ⟨g5,4,none⟩=some (.int .i64 f.d):=blk_cell (i:=4) z5
        have e74:z.cell? ⟨g7,4,none⟩=some (.int .i64 s.d):=blk_cell (i:=4) z7
        clear z5 z7
        simp only [PlanFacts,List.getD_cons_zero,List.getD_cons_succ,Array.getD_eq_getD_getElem?] at hf
        try simp at hf
       iterate 5
        ·clear hb
         go_simp
         exact ⟨_,rfl,Far.refl _ _,rfl⟩
       iterate 3
        ·clear hb
         have hg:a.tmps[47]? = some (.bool false):=tmpB (by first | exact hf | exact hf.2 | exact hf.2.2)
         go_simp
         try trivial
       ·clear hb
        go_simp
        exact ⟨_,rfl,Far.refl _ _,rfl⟩
       ·have z0:=hb.blk (unhide H0) (by
         rintro ⟨q,hq,g1,g2,g3⟩
         simp at hq
         subst hq
         exact g1 rfl)
        clear hb
        rw [if_pos (by rfl)]
        refine wp_store_row 199 (.tmp 2) (.tmp 43) rfl w.heap.size #[.int .u32 0,.int .u64 0,.int .i64 0,.int .i64 0,.int .i64 0] (by simp [Act.eval,hf]) (by simp [Act.eval,hf]) 199 _ z0 (by rw [size_head];rfl) (by simp) (by rw [Array.all_eq_true_iff_forall_mem];intro u hu;simp at hu;rcases hu with rfl | rfl | rfl <;> rfl) ?_
        exact ⟨_,rfl,footOf_of (.head _) (far_setRow _ _ _),setRow_heap _ _ _ _ _ _ z0⟩
       iterate 2
        ·clear hb
         go_simp
         exact ⟨_,rfl,Far.refl _ _,rfl⟩
      ·intro f' z hF hwd
       have h9:=hwd.2.2.2.2.2.2.2.2.2.1
       have h10:=hwd.2.2.2.2.2.2.2.2.2.2.1
       have h11:=hwd.2.2.2.2.2.2.2.2.2.2.2.1
       have q0:z.cell? ⟨w.heap.size,0,none⟩=some (.int .u32 0):=blk_cell (i:=0) h9
       have q1:z.cell? ⟨w.heap.size,1,none⟩=some (.int .u64 0):=blk_cell (i:=1) h9
       have q2:z.cell? ⟨w.heap.size,2,none⟩=some (.int .i64 0):=blk_cell (i:=2) h9
       have q3:z.cell? ⟨w.heap.size,3,none⟩=some (.int .i64 0):=blk_cell (i:=3) h9
       have q4:z.cell? ⟨w.heap.size,4,none⟩=some (.int .i64 0):=blk_cell (i:=4) h9
       have HBZ:=hide ((unhide HBY).trans (hF.below (unhide HBY).size (fun k hk h => by
        obtain ⟨q,hq,h⟩:=h
        simp at hq
        subst hq
        have h:k=w.heap.size:=h
        omega)))
       clear hwd hF h9
       simp only [mergeT,h10,h11]
       generalize f' 43=x43
       generalize f' 44=x44
       generalize f' 45=x45
       generalize f' 46=x46
       generalize f' 47=x47
       generalize f' 48=x48
       generalize f' 49=x49
       generalize f' 50=x50
       generalize f' 51=x51
       go_simp
       go_wp2
       refine bodyPost_ret (v:=.tuple #[.agg #[.int .u32 0,.int .u64 0,.int .i64 0,.int .i64 0,.int .i64 0],.int .i64 0,.bool false]) (by simp [results,Tryz.results111,go_sem,q0,q1,q2,q3,q4]) rfl ?_
       exact nhOut_no (unhide HNN) Mod.hd0 0 (unhide HBZ)
end Go.Proofs.YtamafdcnbcoegabGreat
namespace Go.Proofs.YtamafdcnbcoegabGreat
open Go.RowKit
theorem readRecord_any (S:List UInt8) (hS:S.length=64) (last:Nat) (w:World):Calls Tryz.prog 162 #[.agg (bv S).toArray,.int .u32 last] w fun r w' =>
  ∃ h:Mod.Rc,r = .returned (.tuple #[rcVal h,.bool (Mod.recOk S last)])∧(Mod.recOk S last=true→h=Mod.recIs S)∧Below w.heap.size w w':=by
 by_cases hne:S=zeros
 ·subst hne
  refine (readRecord_zero w last).mono ?_
  rintro r y ⟨rfl,hb⟩
  have h1:Mod.recOk zeros last=true:=by unfold Mod.recOk;rw [nought_zeros];simp
  refine ⟨Mod.rc0,(by rw [h1];rfl),fun _ => ?_,hb⟩
  unfold Mod.recIs
  rw [nought_zeros,if_pos rfl]
 ·refine (readRecord_some S hS hne last w).mono ?_
  rintro r y ⟨h,rfl,h2,hb⟩
  refine ⟨h,rfl,fun hk => ?_,hb⟩
  rw [h2 hk]
  unfold Mod.recIs
  rw [nought_zeros,if_neg hne]
def rcRow:List Mod.Rc→List Value
 | [] => []
 | r :: l => .int .i64 r.s :: .int .i64 r.q :: .string r.b :: rcRow l
theorem length_rcRow:∀ l,(rcRow l).length=l.length * 3
 | [] => rfl
 | r :: l => by simp [rcRow,length_rcRow l];omega
theorem rcRow_app:∀ (l k:List Mod.Rc),rcRow (l ++ k)=rcRow l ++ rcRow k
 | [],k => rfl
 | r :: l,k => by simp [rcRow,rcRow_app l k]
theorem rcRow_get:∀ (l:List Mod.Rc) (j:Nat) (r:Mod.Rc),l[j]? = some r→(rcRow l)[j * 3]? = some (.int .i64 r.s)∧(rcRow l)[j * 3+1]? = some (.int .i64 r.q)∧(rcRow l)[j * 3+2]? = some (.string r.b)
 | [],j,r,h => by simp at h
 | x :: l,0,r,h => by
  simp at h
  subst h
  exact ⟨rfl,rfl,rfl⟩
 | x :: l,j+1,r,h => by
  have:=rcRow_get l j r (by simpa using h)
  rw [show (j+1) * 3=j * 3+1+1+1 by omega,show j * 3+1+1+1+1=j * 3+1+1+1+1 from rfl]
  exact this
def recsTo (L:List UInt8) (k:Nat):List Mod.Rc:=(List.range k).map fun x => Mod.recIs (Mod.sec L (2+x))
theorem recsTo_succ (L:List UInt8) (k:Nat):recsTo L (k+1)=recsTo L k ++ [Mod.recIs (Mod.sec L (2+k))]:=by
 simp [recsTo,List.range_succ]
theorem recsFrom_all {L:List UInt8} {last:Nat}:∀ (n x:Nat),(∀ y,x ≤ y→y < x+n→Mod.recOk (Mod.sec L (2+y)) last=true)→Mod.recsFrom L last x n=some ((List.range n).map fun j => Mod.recIs (Mod.sec L (2+(x+j))))
 | 0,_,_ => rfl
 | n+1,x,h => by
  have ih:=recsFrom_all n (x+1) (fun y hy hy2 => h y (by omega) (by omega))
  rw [Mod.recsFrom,if_pos (h x (Nat.le_refl _) (by omega)),ih,List.range_succ_eq_map]
  simp
  intro a _
  rw [Nat.add_assoc,Nat.add_comm 1 a]
theorem recsFrom_to {L:List UInt8} {last n:Nat} (h:∀ y,y < n→Mod.recOk (Mod.sec L (2+y)) last=true):Mod.recsFrom L last 0 n=some (recsTo L n):=by
 have:=recsFrom_all (L:=L) (last:=last) n 0 (fun y _ hy => h y (by omega))
 simpa [recsTo] using this
theorem recsFrom_bad {L:List UInt8} {last n y:Nat} (hy:y < n) (h:Mod.recOk (Mod.sec L (2+y)) last=false):Mod.recsFrom L last 0 n=none:=by
 cases hr:Mod.recsFrom L last 0 n with
 | none => rfl
 | some rs =>
  have:=((Mod.recsFrom_some n 0 hr).2 y hy).1
  rw [Nat.zero_add,h] at this
  cases this
set_option maxRecDepth 100000 in
set_option maxHeartbeats 1000000 in
theorem readRecords_any (w:World) (v:Value) (L:List UInt8) (m:Nat) (last:Nat) (hat:BytesAt w v L) (hL:L.length=m * 64) (hm1:2 ≤ m) (hm2:m ≤ 150) :
  Calls Tryz.prog 112 #[v,.int .u32 last] w fun r w' => ∃ rv,r = .returned (.tuple #[rv,.bool (Mod.recsFrom L last 0 (m - 2)).isSome])∧(∀ rs,Mod.recsFrom L last 0 (m - 2)=some rs→w'.ownsRow w.heap.size 150 3 rv (m - 2) (rcRow rs))∧Below w.heap.size w w':=by
 obtain ⟨i0,hi,hz0,hz1,hz2⟩:=info_parts2 info_rec
 have hS:=fun (k:Nat) (hk:64 * k+64 ≤ L.length) y (hb:Below w.heap.size w y) => hide (sectorAt_any y v L k (hat.below hb) hk (by omega))
 have hsl:=fun (k:Nat) (hk:k * 64+64 ≤ L.length) => Mod.length_sec hk
 obtain ⟨ad,cap,rfl,hc1,hc2,hc3⟩:=hat
 clear hc3
 have hq:(((m * 64:Nat):Int)).tdiv 64=(m:Int):=by rw [Int.natCast_mul];exact Int.mul_tdiv_cancel _ (by omega)
 obtain ⟨n,hn⟩:∃ n,n=m * 64:=⟨_,rfl⟩
 rw [hL] at hc1 hc2 hS hsl ⊢
 rw [← hn] at hq hS hsl hc1 hc2 ⊢
 have hjm:∀ j,j < m→64 * j+64 ≤ n:=by intro j hj;omega
 clear hn hL
 go_enter Tryz.func112,Tryz.ntmps112
 go_wp2
 go_loopw [6,7,8,9] (fun v6 i _ _ wr => ∃ j:Nat,2 ≤ j∧j ≤ m∧i = .int .i64 j∧wr.ownsRow w.heap.size 150 3 v6 (j - 2) (rcRow (recsTo L (j - 2)))∧Below w.heap.size w wr∧∀ y,y < j - 2→Mod.recOk (Mod.sec L (2+y)) last=true) (fun _ i _ _ _ => m - (intOf i).toNat)
 case atStart => exact ⟨2,by omega,by omega,rfl,World.ownsRow_nil _ _ _ _,Below.refl _ _,fun y hy => by omega⟩
 case round =>
  obtain ⟨j,hj1,hj2,rfl,ho,hb,hok⟩:=hrel
  by_cases hlt:j < m
  ·have hSj:=unhide (hS j (hjm j hlt) wr hb)
   have hRj:=fun y => hide (readRecord_any (Mod.sec L j) (hsl j (by have:=hjm j hlt;omega)) last y)
   have hsj:Mod.sec L j=(L.drop (j * 64)).take 64:=rfl
   rw [← hsj] at hSj
   have hj22:2+(j - 2)=j:=by omega
   have hrec:recsTo L (j - 2+1)=recsTo L (j - 2) ++ [Mod.recIs (Mod.sec L j)]:=by rw [recsTo_succ,hj22]
   have hbad:Mod.recOk (Mod.sec L j) last=false→Mod.recsFrom L last 0 (m - 2)=none:=fun h => recsFrom_bad (y:=j - 2) (by omega) (by rw [hj22];exact h)
   have hgood:Mod.recOk (Mod.sec L j) last=true→∀ y,y < j+1 - 2→Mod.recOk (Mod.sec L (2+y)) last=true:=fun h y hy => by
    by_cases e:y < j - 2
    ·exact hok y e
    ·obtain rfl:y=j - 2:=by omega
     rw [hj22];exact h
   clear hsj hj22 hok
   generalize Mod.recOk (Mod.sec L j) last=ok at *
   generalize Mod.recIs (Mod.sec L j)=R at *
   generalize Mod.sec L j=S at *
   obtain ⟨XS,hXS⟩:∃ XS,XS=rcRow (recsTo L (j - 2)):=⟨_,rfl⟩
   have hXL:XS.length=(j - 2) * 3:=by rw [hXS,length_rcRow];simp [recsTo]
   have hrecC:rcRow (recsTo L (j - 2+1))=XS ++ [.int .i64 R.s,.int .i64 R.q,.string R.b]:=by rw [hrec,rcRow_app,← hXS];rfl
   rw [← hXS] at ho
   clear hXS hrec
   have HO:=hide ho
   have HSJ:=hide hSj
   have HB:=hide hb
   have hsz:=hb.size
   have HLZ:=hide hXL
   have HG:=hide (And.intro hrecC (And.intro hbad hgood))
   clear ho hb hSj hS hsl hjm hXL hrecC hbad hgood
   have HI:=hide (And.intro hi (And.intro hz0 (And.intro hz1 hz2)))
   clear hi hz0 hz1 hz2
   go_upto_region 6 with (first
    | (go_at_call 160;refine (unhide HSJ).mono ?_;rintro r y ⟨rfl,hb1⟩)
    | (go_at_call 162;refine (unhide (hRj _)).mono ?_;rintro r y2 ⟨R1,rfl,hR1,hb2⟩;unfold rcVal))
   have hb12:Below wr.heap.size wr y2:=hb1.trans (hb2.mono hb1.size)
   have HR1:=hide hR1
   obtain ⟨g8,hg8⟩:∃ g,g=y2.heap.size:=⟨_,rfl⟩
   rw [← hg8]
   refine wp_world (fun x => x.heap[g8]? = some (.cells #[.int .i64 R1.s,.int .i64 R1.q,.string R1.b] 150 (0,0))∧Below wr.heap.size wr x) ?_ ?_
   ·exact ⟨by rw [hg8];exact heap_alloc_new _ _,hb12.alloc hb12.size _⟩
   clear hb1 hb2 hb12 hg8 hRj hR1
   rintro x ⟨h8,hbx⟩
   have e0:x.cell? ⟨g8,0,none⟩=some (.int .i64 R1.s):=blk_cell (i:=0) h8
   have e1:x.cell? ⟨g8,1,none⟩=some (.int .i64 R1.q):=blk_cell (i:=1) h8
   have e2:x.cell? ⟨g8,2,none⟩=some (.string R1.b):=blk_cell (i:=2) h8
   have hOx:=ownsRow_keepB (w':=x) (unhide HO) (fun g hg => hbx.block g (World.ownsRow.lt (unhide HO) g hg).2)
   have hbw:Below w.heap.size w x:=(unhide HB).trans (hbx.mono hsz)
   have HOX:=hide hOx
   have HBX:=hide hbw
   have hszx:=hbw.size
   clear h8 hbx hOx hbw HO HB
   cases ok with
   | false =>
    have hnone:=(unhide HG).2.1 rfl
    clear HG HOX HI HLZ HSJ
    go_wp2
    go_ret2
    refine ⟨.slice none 0 0,by rw [hnone];rfl,fun rs h => ?_,unhide HBX⟩
    rw [hnone] at h
    cases h
   | true =>
    obtain rfl:R1=R:=(unhide HR1) (by trivial)
    go_upto_region 4 with (at_builtin;obtain ⟨hi,hz0,hz1,hz2⟩:=unhide HI;refine wpList_append_own _ rfl (.tmp 27) (.tmp 29) 141 rfl w.heap.size 150 i0 _ 3 32 Tryz.underlying141 hi hz0 hz1 hz2 rfl (by decide) u6 (j - 2) XS rfl ((unhide HOX).alloc _) ⟨x.heap.size,0,none⟩ 1 1 [.int .i64 R1.s,.int .i64 R1.q,.string R1.b] rfl rfl cells_new (by intro u hu;simp at hu;rcases hu with rfl | rfl | rfl <;> rfl) (by unfold maxLen;omega) (by omega) (by simp;omega) ?_;intro v' w1 hown' hgrow _;have hb3:Below w.heap.size x w1:=((Below.refl _ x).alloc hszx _).trans (below_grown_new (B:=w.heap.size) hgrow (by simp;omega) (fun g' hg' => (World.ownsRow.lt (unhide HOX) g' hg').1));replace hown':=hide hown';replace hb3:=hide hb3;clear hgrow hi hz0 hz1 hz2;go_simp)
    have hw:IntKind.i64.wrap ((j:Int)+1)=(j:Int)+1:=by rw [IntKind.wrap_i64];omega
    go_wp2
    refine ⟨⟨j+1,by omega,by omega,by go_num,?_,(unhide HBX).trans (unhide hb3),(unhide HG).2.2 (by trivial)⟩,?_⟩
    ·have e:j+1 - 2=(j - 2)+1:=by omega
     rw [e,(unhide HG).1]
     exact unhide hown'
    ·simp [intOf]
     omega
  ·have e:j=m:=by omega
   subst e
   have HF:=hide (recsFrom_to hok)
   clear hok
   go_wp2
   go_ret2
   refine ⟨_,by rw [unhide HF];rfl,fun rs h => ?_,hb⟩
   rw [unhide HF] at h
   cases h
   exact ho
end Go.Proofs.YtamafdcnbcoegabGreat
namespace Go.Proofs.YtamafdcnbcoegabGreat
namespace Mod
def cnt (l:Nat→List ByteArray):Nat:=(l 0).length+(l 1).length+(l 2).length
def logAdd (l:Nat→List ByteArray) (s:Nat) (b:ByteArray):Nat→List ByteArray:=fun j => if j=s then l s ++ [b] else l j
theorem cnt_add (l:Nat→List ByteArray) (s:Nat) (b:ByteArray) (hs:s < 3):cnt (logAdd l s b)=cnt l+1:=by
 unfold cnt logAdd
 obtain rfl | rfl | rfl:s=0 ∨ s=1 ∨ s=2:=by omega
 all_goals
  simp
  try omega
def skLd:List Rc→Nat→(Nat→List ByteArray)→Option (Nat→List ByteArray)
 | [],_,l => some l
 | r :: rs,x,l => if r.q=0 then skLd rs (x+1) l else if x=cnt l∧r.q=(l r.s).length+1 then skLd rs (x+1) (logAdd l r.s r.b) else none
def skLoad (L:List UInt8):Option Sk :=
 match openSt L with
 | none => none
 | some (h,_,rs) => if h.b=0∧h.d=0 then (match skLd rs 0 (fun _ => []) with
  | none => none
  | some l => some { epoch:=h.a,logs:=l,held:=[] }) else none
theorem skLd_app:∀ (rs qs:List Rc) (x:Nat) (l:Nat→List ByteArray),skLd (rs ++ qs) x l=match skLd rs x l with
  | none => none
  | some l' => skLd qs (x+rs.length) l'
 | [],qs,x,l => by simp [skLd]
 | r :: rs,qs,x,l => by
  rw [List.cons_append,skLd,skLd,List.length_cons,show x+(rs.length+1)=x+1+rs.length by omega]
  split
  ·exact skLd_app rs qs (x+1) l
  ·split
   ·exact skLd_app rs qs (x+1) _
   ·rfl
theorem skLd_zero:∀ (n x:Nat) (l:Nat→List ByteArray),skLd (List.replicate n rc0) x l=some l
 | 0,_,_ => rfl
 | n+1,x,l => by
  rw [List.replicate_succ,skLd,if_pos (show rc0.q=0 from rfl)]
  exact skLd_zero n (x+1) l
theorem skLd_gap:∀ (rs:List Rc) (x:Nat) (l l':Nat→List ByteArray),cnt l < x→skLd rs x l=some l' → l' = l∧∀ r ∈ rs,r.q=0
 | [],x,l,l',_,h => by cases h;exact ⟨rfl,fun r hr => by cases hr⟩
 | r :: rs,x,l,l',hx,h => by
  rw [skLd] at h
  split at h
  ·rename_i h0
   obtain ⟨e,i⟩:=skLd_gap rs (x+1) l l' (by omega) h
   exact ⟨e,fun r' hr => by
    cases hr with
    | head => exact h0
    | tail _ hr => exact i r' hr⟩
  ·rw [if_neg (by omega)] at h
   cases h
theorem skLd_some:∀ (rs:List Rc) (x:Nat) (l l':Nat→List ByteArray),cnt l=x→(∀ r ∈ rs,r.s < 3)→skLd rs x l=some l' →
  ∃ n,n ≤ rs.length∧cnt l' = x+n∧skLd (rs.take n) x l=some l' ∧ (∀ y,y < n→∃ r,rs[y]? = some r∧r.q ≠ 0)∧∀ y,n ≤ y→∀ r,rs[y]? = some r→r.q=0
 | [],x,l,l',hx,_,h => by cases h;exact ⟨0,Nat.le_refl _,hx,rfl,fun y hy => by omega,fun y _ r hr => by simp at hr⟩
 | r :: rs,x,l,l',hx,hs,h => by
  have h00:=h
  rw [skLd] at h
  split at h
  ·rename_i h0
   obtain ⟨e,i⟩:=skLd_gap rs (x+1) l l' (by omega) h
   subst e
   refine ⟨0,Nat.zero_le _,hx,rfl,fun y hy => by omega,fun y _ r' hr => ?_⟩
   cases y with
   | zero => simp at hr;rw [← hr];exact h0
   | succ y => exact i r' (List.mem_of_getElem? (by simpa using hr))
  ·rename_i h0
   split at h
   ·rename_i h1
    obtain ⟨n,n1,n2,n3,n4,n5⟩:=skLd_some rs (x+1) _ l' (by rw [cnt_add _ _ _ (hs r (.head _)),hx]) (fun r' hr => hs r' (.tail _ hr)) h
    refine ⟨n+1,by simp;omega,by omega,?_,fun y hy => ?_,fun y hy r' hr => ?_⟩
    ·rw [List.take_succ_cons,skLd,if_neg h0,if_pos h1]
     exact n3
    ·cases y with
     | zero => exact ⟨r,rfl,h0⟩
     | succ y => exact n4 y (by omega)
    ·cases y with
     | zero => omega
     | succ y => exact n5 y (by omega) r' (by simpa using hr)
   ·cases h
structure SkDisk (L:List UInt8) (op ct hd e:Nat) (logs:Nat→List ByteArray):Prop where
 ok:DiskOk L op ct hd (fun i => if i=0 then e else 0) 122
 rcs:∃ ord:List Rc,ord.length=cnt logs∧cnt logs ≤ 120∧(∀ r ∈ ord,r.fits)∧skLd ord 0 (fun _ => [])=some logs∧∀ x,x < 120→RecAt (sec L (2+x)) op (ord.getD x rc0)
theorem SkDisk.loads {L:List UInt8} {op ct hd e:Nat} {logs:Nat→List ByteArray} (h:SkDisk L op ct hd e logs) (hop:op ≤ 1073741824):skLoad L=some { epoch:=e,logs:=logs,held:=[] }:=by
 obtain ⟨ord,o1,o2,o3,o4,o5⟩:=h.rcs
 obtain ⟨c,ho⟩:=h.ok.opens hop (fun x => ord.getD x rc0) (fun x hx => o5 x hx)
 have hrs:(List.range (122 - 2)).map (fun x => ord.getD x rc0)=ord ++ List.replicate (120 - ord.length) rc0:=by
  apply List.ext_getElem?
  intro i
  rw [List.getElem?_map,List.getElem?_append,List.getElem?_replicate]
  by_cases hi:i < 120
  ·rw [List.getElem?_range (by omega)]
   by_cases hl:i < ord.length
   ·rw [if_pos hl]
    simp [List.getD_eq_getElem?_getD,hl]
   ·rw [if_neg hl,if_pos (by omega)]
    simp [List.getD_eq_getElem?_getD,List.getElem?_eq_none (by omega:ord.length ≤ i)]
  ·rw [List.getElem?_eq_none (by simp;omega),if_neg (by omega),if_neg (by omega)]
   rfl
 unfold skLoad
 rw [ho]
 simp only
 rw [if_pos (by simp),hrs,skLd_app,o4]
 simp only
 rw [skLd_zero]
 simp
theorem SkDisk.commit {L:List UInt8} {op ct hd e:Nat} {logs:Nat→List ByteArray} (h:SkDisk L op ct hd e logs) {s:Nat} {b:ByteArray} (hs:s < 3) (hb:b.size ≤ 20) (hr:cnt logs < 120) (hct:ct+1 < 18446744073709551616) :
  SkDisk (setSec L (2+cnt logs) (sealR op (ct+1) ⟨s,(logs s).length+1,b⟩)) op (ct+1) hd e (logAdd logs s b):=by
 obtain ⟨ord,o1,o2,o3,o4,o5⟩:=h.rcs
 have hS:(sealR op (ct+1) ⟨s,(logs s).length+1,b⟩).length=64:=length_sealR hb
 have hq:(logs s).length ≤ cnt logs:=by
  unfold cnt
  obtain rfl | rfl | rfl:s=0 ∨ s=1 ∨ s=2:=by omega
  all_goals omega
 have hf:Rc.fits ⟨s,(logs s).length+1,b⟩:=⟨hs,by show 1 ≤ (logs s).length+1;omega,by show (logs s).length+1 ≤ _;omega,hb⟩
 refine ⟨h.ok.record hS (by omega) hct,ord ++ [⟨s,(logs s).length+1,b⟩],by rw [cnt_add _ _ _ hs];simp [o1],by rw [cnt_add _ _ _ hs];omega,?_,?_,fun x hx => ?_⟩
 ·intro r hr
  rw [List.mem_append] at hr
  rcases hr with hr | hr
  ·exact o3 r hr
  ·rw [List.mem_singleton] at hr
   rw [hr]
   exact hf
 ·rw [skLd_app,o4]
  simp only
  rw [skLd,if_neg (by show ¬ (logs s).length+1=0;omega),if_pos ⟨by omega,rfl⟩,skLd]
 ·have hl:=h.ok.len
  by_cases e:x=cnt logs
  ·subst e
   rw [sec_set hS (by omega),List.getD_eq_getElem?_getD,List.getElem?_append_right (by omega),o1,Nat.sub_self]
   exact .inr ⟨op,ct+1,h.ok.op1,Nat.le_refl _,h.ok.opm,hct,hf,rfl⟩
  ·rw [sec_other hS (by omega) (by omega)]
   have:(ord ++ [Rc.mk s ((logs s).length+1) b]).getD x rc0=ord.getD x rc0:=by
    rw [List.getD_eq_getElem?_getD,List.getD_eq_getElem?_getD,List.getElem?_append]
    split
    ·rfl
    ·rw [List.getElem?_eq_none (by simp;omega),List.getElem?_eq_none (by omega)]
   rw [this]
   exact o5 x hx
theorem SkDisk.epoch {L:List UInt8} {op ct hd e:Nat} {logs:Nat→List ByteArray} (h:SkDisk L op ct hd e logs) {e':Nat} (he:e' ≤ 2147483647) (hct:ct+1 < 18446744073709551616) :
  SkDisk (setSec L (1 - hd) (sealH ⟨op,ct+1,e',0,0⟩)) op (ct+1) (1 - hd) e' logs:=by
 obtain ⟨ord,o1,o2,o3,o4,o5⟩:=h.rcs
 have hl:=h.ok.len
 refine ⟨h.ok.numbers (g':=fun i => if i=0 then e' else 0) (fun i _ => by show (if i=0 then e' else 0) ≤ _;split <;> omega) hct,ord,o1,o2,o3,o4,fun x hx => ?_⟩
 rw [sec_other (length_sealH _) (by omega) (by omega)]
 exact o5 x hx
theorem skLoad_some {L:List UInt8} {a:Sk} (h:skLoad L=some a):∃ hd at' rs,openSt L=some (hd,at',rs)∧hd.b=0∧hd.d=0∧a.epoch=hd.a∧a.held = [] ∧ skLd rs 0 (fun _ => [])=some a.logs:=by
 unfold skLoad at h
 cases ho:openSt L with
 | none => rw [ho] at h;cases h
 | some p =>
  obtain ⟨hd,at',rs⟩:=p
  rw [ho] at h
  simp only at h
  split at h
  ·rename_i h0
   cases hl:skLd rs 0 (fun _ => []) with
   | none => rw [hl] at h;cases h
   | some l => rw [hl] at h;cases h;exact ⟨hd,at',rs,rfl,h0.1,h0.2,rfl,rfl,hl⟩
  ·cases h
theorem skDisk_opened {L:List UInt8} {a:Sk} {hd:Hd} {at':Nat} {rs:List Rc} (ho:openSt L=some (hd,at',rs)) (hb:hd.b=0) (hd0:hd.d=0) (hl:skLd rs 0 (fun _ => [])=some a.logs) (hlen:L.length=7808) :
  SkDisk (openL L hd at') (hd.o+1) 1 (1 - at') hd.a a.logs:=by
 obtain ⟨hn,hr⟩:=openSt_some ho
 rw [hlen] at hr
 obtain ⟨r1,r2⟩:=recsFrom_some _ _ hr
 have hat:∀ x,x < 120→RecAt (sec L (2+x)) (hd.o+1) (rs.getD x rc0):=fun x hx => by
  obtain ⟨k1,k2⟩:=r2 x hx
  rw [Nat.zero_add] at k1 k2
  rw [List.getD_eq_getElem?_getD,k2]
  exact (recAt_ok k1).up (by omega)
 have hsm:∀ r ∈ rs,r.s < 3:=fun r hr => by
  obtain ⟨x,hx,e⟩:=List.mem_iff_getElem.1 hr
  obtain ⟨k1,k2⟩:=r2 x (by omega)
  rw [List.getElem?_eq_getElem hx,e] at k2
  cases k2
  exact (recOk_small k1).1
 obtain ⟨n,n1,n2,n3,n4,n5⟩:=skLd_some rs 0 _ _ (by rfl) hsm hl
 have hok:=opened_ok hn (m:=122) (by omega) (by omega)
 refine ⟨?_,rs.take n,by simp;omega,by omega,fun r hr => ?_,n3,fun x hx => ?_⟩
 ·have:hd.num=fun i => if i=0 then hd.a else 0:=by
   funext i
   unfold Hd.num
   split
   ·rfl
   ·split
    ·exact hb
    ·exact hd0
  rw [← this]
  exact hok
 ·obtain ⟨x,hx,e⟩:=List.mem_iff_getElem.1 hr
  have hxn:x < n:=by simp at hx;omega
  obtain ⟨r',h1,h2⟩:=n4 x hxn
  have h3:rs.getD x rc0=r':=by rw [List.getD_eq_getElem?_getD,h1];rfl
  have h4:r=r':=by
   rw [← e]
   simp only [List.getElem_take]
   rw [List.getElem?_eq_getElem (by omega)] at h1
   cases h1
   rfl
  have:=hat x (by omega)
  rw [h3,← h4] at this
  rcases this with ⟨_,e0⟩ | ⟨_,_,_,_,_,_,hf,_⟩
  ·rw [← h4,e0] at h2
   exact absurd rfl h2
  ·exact hf
 ·rw [openL_other (m:=122) (by omega) (by omega) (by omega)]
  have h0:=hat x hx
  by_cases hxn:x < n
  ·have:(rs.take n).getD x rc0=rs.getD x rc0:=by
    rw [List.getD_eq_getElem?_getD,List.getD_eq_getElem?_getD,List.getElem?_take,if_pos hxn]
   rw [this]
   exact h0
  ·have:(rs.take n).getD x rc0=rc0:=by
    rw [List.getD_eq_getElem?_getD,List.getElem?_eq_none (by simp;omega)]
    rfl
   rw [this]
   have hq:=n5 x (by omega) (rs.getD x rc0) (by rw [List.getD_eq_getElem?_getD,List.getElem?_eq_getElem (by omega)];rfl)
   rcases h0 with ⟨e1,_⟩ | ⟨_,_,_,_,_,_,hf,_⟩
   ·exact .inl ⟨e1,rfl⟩
   ·have:=hf.2.1;omega
end Mod
end Go.Proofs.YtamafdcnbcoegabGreat
