/-
  Part 9 of a proof: K20, D23, D24, U1, U2, S10, S11, S12, S7U, S8U, S7I, S8I.
-/
import Derived.RangeFuncNested
import Derived.RangeFuncBound
import Derived.RangeFuncCalls
import Derived.RangeFuncLeaves
import Derived.Shelf.Abstract
import Derived.Shelf.RegionOpen
import Derived.OwnWalkIn
import Derived.TacticsInMore
import Derived.LoopNIn
import Derived.LoopIn
import Derived.Test.YtamafdcnbcoegabGreatAn8
namespace Go.Proofs.YtamafdcnbcoegabGreat
open Go.RowKit
def OneT (B:Nat) (b:ByteArray) (v:Value) (w:World):Prop:=∃ g,v = .slice (some ⟨g,0,none⟩) 1 1∧B ≤ g∧w.heap[g]? = some (.cells #[.string b] 9 (0,0))
theorem stable_oneT (B:Nat) (b:ByteArray):Stable (OneT B b):=fun _ _ _ h hb => by
 obtain ⟨g,e,h1,h2⟩:=h
 exact ⟨g,e,h1,(hb.block g (lt_of_block h2)).trans h2⟩
theorem stableF_oneT {B:Nat} {b:ByteArray} {E:Nat→Prop} (hE:∀ k,E k→k < B):StableF E (OneT B b):=fun _ _ _ h hF => by
 obtain ⟨g,e,h1,h2⟩:=h
 exact ⟨g,e,h1,hF.blk h2 (fun e => by have:=hE _ e;omega)⟩
def RowT (w0:World) (fv:Value) (n:Nat) (xs:List Value) (v:Value) (w:World):Prop:=RowO w 9 1 v n xs∧Loc w0 fv v∧w0.heap.size ≤ w.heap.size
theorem stable_rowT (w0:World) (fv:Value) (n:Nat) (xs:List Value):Stable (RowT w0 fv n xs):=fun _ _ _ h hb =>
 ⟨h.1.keep (fun g hg => hb.block g (h.1.lt g hg)),h.2.1,Nat.le_trans h.2.2 hb.size⟩
theorem stableF_rowT {w0:World} {fv:Value} {n:Nat} {xs:List Value} {E:Nat→Prop} (hE:∀ k,E k→k < w0.heap.size∧fv.ownBlock ≠ some k):StableF E (RowT w0 fv n xs):=fun _ _ _ h hF =>
 ⟨h.1.far hF (fun g hg e => by
  obtain ⟨h1,h2⟩:=hE g e
  rcases h.2.1 with h3 | h3 | ⟨k,h3,h4⟩
  ·rw [h3] at hg;cases hg
  ·rw [h3] at hg;exact h2 hg
  ·rw [h3] at hg;cases hg;omega),h.2.1,Nat.le_trans h.2.2 hF.size⟩
theorem eq_rec_no (s q:Nat) (b:ByteArray) (hq:q ≠ 0) (w:World):(binOp .eql 150 (.agg #[.int .i64 s,.int .i64 q,.string b]) (.agg #[.int .i64 0,.int .i64 0,.string ⟨#[]⟩])).run Tryz.prog w = .ok (.bool false) w:=by
 have hne:((q:Int) == 0)=false:=by simp;omega
 rw [run_eql_struct,run_equalIn_struct w 9999 150 _ _ (by kernel_rfl) (by kernel_rfl)]
 cases hs:((s:Int) == 0) <;> simp [go_sem,hne,hs]
theorem eq_rec_yes (w:World):(binOp .eql 150 (.agg #[.int .i64 0,.int .i64 0,.string ⟨#[]⟩]) (.agg #[.int .i64 0,.int .i64 0,.string ⟨#[]⟩])).run Tryz.prog w = .ok (.bool true) w:=by kernel_rfl
def LdAt (w x:World) (p e s:Nat) (logs:Nat→List ByteArray):Prop :=
 ∃ arr lv,KsAt x p e logs (fun _ => []) arr s lv (fun _ => .slice none 0 0) (fun _ => .map none) (.slice none 0 0)∧Far (fun k => k=p) w x∧∀ i,i < 3→∀ g,(lv i).ownBlock=some g→w.heap.size ≤ g
theorem LdAt.below {w x y:World} {p e s:Nat} {logs:Nat→List ByteArray} (h:LdAt w x p e s logs) (hb:Below x.heap.size x y):LdAt w y p e s logs:=by
 obtain ⟨arr,lv,h1,h2,h3⟩:=h
 exact ⟨arr,lv,h1.far (far_below (E:=fun _ => False) hb) (fun _ _ h => h),h2.trans (far_below (E:=fun _ => False) hb) (fun _ _ h => h.elim),h3⟩
def newArrE (s e:Nat) (rv:Value):Array Value:=#[ptrTo s,.int .i64 e,.slice none 0 0,.slice none 0 0,.map none,.slice none 0 0,.slice none 0 0,.map none,.slice none 0 0,.slice none 0 0,.map none,rv]
theorem ldAt_new {w:World} {p e s:Nat} (hb:w.heap[p]? = some (.cells (newArrE s e (.slice none 0 0)) 125 (0,0))) (he:e ≤ 2147483647):LdAt w w p e s (fun _ => []):=by
 have h3:∀ i,i < 3→(newArrE s e (.slice none 0 0))[2+i * 3]? = some (.slice none 0 0)∧(newArrE s e (.slice none 0 0))[2+i * 3+1]? = some (.slice none 0 0)∧(newArrE s e (.slice none 0 0))[2+i * 3+2]? = some (.map none):=by
  intro i hi
  obtain rfl | rfl | rfl:i=0 ∨ i=1 ∨ i=2:=by omega
  all_goals exact ⟨rfl,rfl,rfl⟩
 refine ⟨_,fun _ => .slice none 0 0,⟨hb,rfl,rfl,rfl,fun i hi => (h3 i hi).1,fun i hi => (h3 i hi).2.1,fun i hi => (h3 i hi).2.2,rfl,fun i hi => rowO_nil _ _ _,fun i hi => shelfIs_nil _,(fun i hi x hx => by cases hx),(fun i j _ _ _ g hg => by cases hg),fun i j _ _ _ k hk => ?_,by simp,he⟩,Far.refl _ _,fun i _ g hg => by cases hg⟩
 rcases hk with h | h <;> cases h
theorem skLd_step {rs:List Mod.Rc} {j:Nat} {r:Mod.Rc} {l:Nat→List ByteArray} (hr:rs[j]? = some r) (h:Mod.skLd (rs.take j) 0 (fun _ => [])=some l) :
  Mod.skLd (rs.take (j+1)) 0 (fun _ => [])=if r.q=0 then some l else if j=Mod.cnt l∧r.q=(l r.s).length+1 then some (Mod.logAdd l r.s r.b) else none:=by
 obtain ⟨hj,e⟩:=List.getElem?_eq_some_iff.1 hr
 rw [List.take_succ_eq_append_getElem hj,e,Mod.skLd_app,h]
 simp only [List.length_take]
 rw [show 0+min j rs.length=j by omega]
 rfl
theorem skLd_bad {rs:List Mod.Rc} {j:Nat} (h:Mod.skLd (rs.take j) 0 (fun _ => [])=none):Mod.skLd rs 0 (fun _ => [])=none:=by
 have:=Mod.skLd_app (rs.take j) (rs.drop j) 0 (fun _ => [])
 rw [List.take_append_drop,h] at this
 exact this
set_option maxRecDepth 100000 in
set_option maxHeartbeats 8000000 in
theorem sinkLoad_any {w:World} {p e s g cap m:Nat} {rs:List Mod.Rc} (hp:w.heap[p]? = some (.cells (newArrE s e (.slice none 0 0)) 125 (0,0))) (hrow:w.ownsRow 0 150 3 (.slice (some ⟨g,0,none⟩) m cap) m (rcRow rs)) (hml:rs.length=m) (hm:m ≤ 120)
  (hrs:∀ r ∈ rs,r=Mod.rc0 ∨ r.fits) (he:e ≤ 2147483647) :
  Calls Tryz.prog 86 #[ptrTo p,.slice (some ⟨g,0,none⟩) m cap] w fun r w' => r = .returned (.bool (Mod.skLd rs 0 (fun _ => [])).isSome)∧Far (fun k => k=p) w w' ∧ ∀ logs,Mod.skLd rs 0 (fun _ => [])=some logs→LdAt w w' p e s logs:=by
 have hgp:0 < m→g ≠ p:=fun _ e => by
  have:=(RowO.of_own hrow).ne hp (by decide)
  exact this (by rw [e];rfl)
 have hc:∀ j r,rs[j]? = some r→w.cell? ⟨g,j * 3,none⟩=some (.int .i64 r.s)∧w.cell? ⟨g,j * 3+1,none⟩=some (.int .i64 r.q)∧w.cell? ⟨g,j * 3+2,none⟩=some (.string r.b):=by
  intro j r hj
  have hjm:=(List.getElem?_eq_some_iff.1 hj).1
  obtain ⟨ad,cap',e,_,_,hcl⟩:=(RowO.of_own hrow).shape
  obtain ⟨g',o',e2,hcl⟩:=hcl (by omega)
  rw [e2] at e
  injection e with e
  injection e with e
  injection e with e e'
  subst e e'
  have hlen:=length_rcRow rs
  have:=rcRow_get rs j r hj
  refine ⟨?_,?_,?_⟩
  ·have h:=hcl (j * 3) (by omega);rw [Nat.zero_add] at h;rw [h];exact this.1
  ·have h:=hcl (j * 3+1) (by omega);rw [Nat.zero_add] at h;rw [h];exact this.2.1
  ·have h:=hcl (j * 3+2) (by omega);rw [Nat.zero_add] at h;rw [h];exact this.2.2
 have HC:=hide hc
 have HGP:=hide hgp
 have hpl:=lt_of_block hp
 have HP:=hide (ldAt_new hp he)
 have HRS:=hide hrs
 have HML:=hide hml
 clear hrow hc hgp hp hrs hml he
 unfold ptrTo
 go_enter Tryz.func86,Tryz.ntmps86
 go_wp2
 go_loopw [5,6,7,10] (fun _ _ _ i wr => ∃ j:Nat,j ≤ m∧i = .int .i64 j∧∃ logs,Mod.skLd (rs.take j) 0 (fun _ => [])=some logs∧LdAt w wr p e s logs) (fun _ _ _ i _ => m - (intOf i).toNat)
 case atStart => exact ⟨0,by omega,rfl,_,rfl,unhide HP⟩
 case round =>
  obtain ⟨j,hj,rfl,logs,hsk,hL⟩:=hrel
  clear HP
  by_cases hlt:j < m
  ·obtain ⟨r,hr⟩:∃ r,rs[j]? = some r:=⟨_,List.getElem?_eq_getElem (by have:=unhide HML;omega)⟩
   obtain ⟨e0,e1,e2⟩:=(unhide HC) j r hr
   have hst:=skLd_step hr hsk
   have hrf:=(unhide HRS) r (List.mem_of_getElem? hr)
   have hgl:g < w.heap.size:=World.block_lt_of_cell? _ _ e0
   have hbk:wr.heap[g]? = w.heap[g]?:=by obtain ⟨_,_,_,hF,_⟩:=hL;exact hF.rest g hgl ((unhide HGP) (by omega))
   have y0:=(World.cell?_of_block (w:=w) hbk:wr.cell? ⟨g,j * 3,none⟩=_).trans e0
   have y1:=(World.cell?_of_block (w:=w) hbk:wr.cell? ⟨g,j * 3+1,none⟩=_).trans e1
   have y2:=(World.cell?_of_block (w:=w) hbk:wr.cell? ⟨g,j * 3+2,none⟩=_).trans e2
   have HL:=hide hL
   have HST:=hide hst
   have HR:=hide hr
   clear hbk e0 e1 e2 hL hsk hst hr
   obtain ⟨g6,hg6⟩:∃ g6,g6=wr.heap.size:=⟨_,rfl⟩
   have HG6:=hide hg6
   go_upto_region 4 with fail
   rw [← hg6]
   refine wp_world (fun x => x.heap[g6]? = some (.cells #[.int .i64 r.s,.int .i64 r.q,.string r.b] 150 (0,0))∧g6 < x.heap.size∧LdAt w x p e s logs) ?_ ?_
   ·rw [hg6]
    exact ⟨heap_alloc_new _ _,by simp,(unhide HL).below ((Below.refl _ _).alloc (Nat.le_refl _) _)⟩
   clear y0 y1 y2 hg6 HL
   rintro x ⟨h6,hg6x,hLx⟩
   have r0:=blk_cell (i:=0) h6
   have r1:=blk_cell (i:=1) h6
   have r2:=blk_cell (i:=2) h6
   simp at r0 r1 r2
   have H6:=hide h6
   have HL:=hide hLx
   clear h6 hLx
   by_cases hq0:r.q=0
   ·have hr0:r=Mod.rc0:=by
     rcases hrf with h | h
     ·exact h
     ·have:=h.2.1;omega
    have hcmp:=eq_rec_yes
    have hnx:Hid (Mod.skLd (rs.take (j+1)) 0 (fun _ => [])=some logs):=by
     show _=_
     rw [unhide HST,if_pos hq0]
    subst hr0
    unfold Mod.rc0 at r0 r1 r2
    simp only at r0 r1 r2
    clear HST hq0 hrf
    go_wp2
    go_roundw
    case rel => exact ⟨j+1,by omega,by go_num,logs,unhide hnx,unhide HL⟩
    case measure => simp [intOf];omega
   ·have hf:r.fits:=by
     rcases hrf with h | h
     ·rw [h] at hq0;exact absurd rfl hq0
     ·exact h
    have hcmp:=eq_rec_no r.s r.q r.b hq0
    obtain ⟨hs3,hq1,hqm,hbz⟩:=hf
    have s0:(0:Int) ≤ (r.s:Int):=by omega
    have s3:(r.s:Int) < 3:=by omega
    have HQ:=hide (And.intro hq0 (And.intro hq1 (And.intro hqm hbz)))
    clear hq0 hq1 hqm hbz hrf
    go_upto_region 5 with fail
    go_quiet (fail)
    go_upto_region 6 with fail
    refine wp_world (fun y => y.heap[g6]? = some (.cells #[.int .i64 r.s,.int .i64 r.q,.string r.b] 150 (0,0))∧LdAt w y p e s logs) ⟨unhide H6,(unhide HL).below (below_drewN (Below.refl _ _) _)⟩ ?_
    clear r0 r1 r2 H6 HL hcmp hg6x
    rintro y ⟨h6,hL⟩
    have r1:=blk_cell (i:=1) h6
    have r2:=blk_cell (i:=2) h6
    simp at r1 r2
    have hg6y:=lt_of_block h6
    have H6:=hide h6
    have HL:=hide hL
    obtain ⟨arr,lv,K,F,N⟩:=hL
    obtain ⟨ad,cap2,hlv,clog⟩:=K.logc hs3
    have hll:=K.loglen hs3
    have hcnt:(logs 0).length+(logs 1).length+(logs 2).length ≤ 120:=K.cnt
    have hCM:=fun n => hide (committed_any (w:=y.drewN n) (K.far (far_drewN (fun _ => False) y n) (fun _ _ h => h)))
    have hNX:=fun n => hide (sinkNext_any (y.drewN n) p (2+r.s * 3) _ cap2 ad clog (by omega))
    have HK:=hide (And.intro K (And.intro F (And.intro N hlv)))
    have hcd:Mod.cnt logs=(logs 0).length+(logs 1).length+(logs 2).length:=rfl
    clear K F N hlv clog h6
    obtain ⟨cn,hcn⟩:∃ cn,cn=(logs 0).length+(logs 1).length+(logs 2).length:=⟨_,rfl⟩
    obtain ⟨nx,hnx⟩:∃ nx,nx=(logs r.s).length+1:=⟨_,rfl⟩
    rw [← hcn] at hCM hcd hcnt
    rw [← hnx] at hNX
    have HN:=hide (And.intro hcd (And.intro hnx hcn))
    clear hcd hcn hnx
    unfold ptrTo at hCM
    by_cases c1:j=cn
    ·have c1':((j:Int) != (cn:Int))=false:=by simp [c1]
     by_cases c2:r.q=nx
     ·have c2':((r.q:Int) != (nx:Int))=false:=by simp [c2]
      have HCC:=hide (And.intro c1 c2)
      clear c1 c2
      go_quiet (first
       | (go_at_call 129;exact Calls.quiet_of_same (unhide (hCM _)))
       | (go_at_call 130;exact Calls.quiet_of_same (unhide (hNX _))))
      go_upto_region 8 with fail
      refine wp_world (fun z => z.heap[g6]? = some (.cells #[.int .i64 r.s,.int .i64 r.q,.string r.b] 150 (0,0))∧LdAt w z p e s logs) ⟨unhide H6,(unhide HL).below (below_drewN (Below.refl _ _) _)⟩ ?_
      clear r1 r2 H6 HL HK hCM hNX hll hg6y
      rintro z ⟨h6,hL⟩
      obtain ⟨arr,lv,K,F,N⟩:=hL
      obtain ⟨ad,cap2,hlv,clog⟩:=K.logc hs3
      have hll:=K.loglen hs3
      have hg6z:=lt_of_block h6
      have hpz:=lt_of_block K.blk
      have hrow:=K.lgs r.s hs3
      have hup:=K.lgs r.s hs3 |>.ne K.blk (by decide)
      have hu6:=K.lgs r.s hs3 |>.ne h6 (by decide)
      have hfvl:=fun g hg => hrow.lt g hg
      have hp6:¬ g6=p:=fun e => by
       have h:=K.blk
       rw [← e,h6] at h
       injection h with h
       injection h with _ h _
       exact absurd h (by decide)
      obtain ⟨n0,hn0⟩:∃ n0,n0=(logs r.s).length:=⟨_,rfl⟩
      rw [← hn0] at hlv hll hrow clog
      have HK:=hide K
      have HF:=hide (And.intro F N)
      have H6:=hide h6
      have HLV:=hide hlv
      have HROW:=hide hrow
      have HN0:=hide hn0
      clear K F N h6 hlv hrow clog hn0
      refine wp_region_foot (by kernel_rfl)
       [fun v _ => v = .pointer (some ⟨p,2+r.s * 3,none⟩),fun v _ => v = .pointer (some ⟨p,2+r.s * 3,none⟩),fun v _ => v = .pointer (some ⟨p,2+r.s * 3,none⟩),fun v _ => v = .pointer (some ⟨p,2+r.s * 3,none⟩),fun v _ => v = .slice ad n0 cap2,fun v _ => v = .pointer (some ⟨g6,2,none⟩),fun v _ => v = .string r.b,OneT z.heap.size r.b,RowT z (lv r.s) (n0+1) (strs (logs r.s) ++ [.string r.b]),fun v _ => v = .pointer (some ⟨p,2+r.s * 3,none⟩),fun v _ => v = .pointer (some ⟨p,2+r.s * 3,none⟩),
        fun _ u => LdAt w u p e s (Mod.logAdd logs r.s r.b)]
       [[(7,none)],[(7,none)],[(36,some 1)],[(37,some 2)],[(38,some 3)],[(6,none)],[(40,some 5)],[(41,some 6)],[(39,some 4),(42,some 7)],[(35,some 0)],[(44,some 9)],[(45,some 10),(43,some 8)]] [some 35,some 36,some 37,some 38,some 39,some 40,some 41,some 42,some 43,some 44,some 45,none] [false,false,false,false,false,false,false,false,false,false,false,false,false,false,false,false,false,false,false,false,false,false,false,false,false,false,false,false,false,false,false,false,false,false,false,true,true,true,true,true,true,true,true,true,true,true,false]
       [(8,fun k => (lv r.s).ownBlock=some k),(11,fun k => k=p)]
       (by kernel_rfl) (by kernel_rfl) (by kernel_rfl) (by kernel_rfl) (by kernel_rfl) ?_ ?_ ?_ ?_
      ·repeat' (first | exact stable_eq _ | exact stable_oneT _ _ | exact stable_rowT _ _ _ _ | exact (fun _ _ _ h hb => h.below hb) | exact trivial | apply And.intro)
      ·repeat' (first | exact trivial | exact .inl rfl | exact .inr (.inr (stableF_eq _ _)) | exact .inr (.inr (stableF_oneT (fun g hg => hfvl g hg))) | exact .inr (.inr (stableF_oneT (fun g (hg:g=p) => by omega))) | exact .inr (.inr (stableF_rowT (fun g (hg:g=p) => ⟨by omega,by rw [hg];exact hup⟩))) | exact .inr (.inl (show depB _ 11 8=true by decide +kernel)) | apply And.intro)
      ·refine ⟨?_,?_,?_,?_,?_,?_,?_,?_,?_,?_,?_,?_,trivial⟩
       all_goals
        intro a' y8 hb hf
        have hzz:=hb.size
        have HBZ:=hide hb
        clear hb
        simp only [PlanFacts,List.getD_cons_zero,List.getD_cons_succ,Array.getD_eq_getD_getElem?] at hf
        try simp at hf
       iterate 4
        ·go_simp
         exact ⟨_,rfl,Far.refl _ _,rfl⟩
       ·have d0:=(unhide HBZ).blk (unhide HK).blk (by
         rintro ⟨q,hq,g1,g2,g3⟩
         simp at hq
         rcases hq with rfl | rfl
         ·exact hup g3
         ·exact absurd (show depB _ 11 4=false from g2) (by decide +kernel))
        have d1:y8.cell? ⟨p,2+r.s * 3,none⟩=some (.slice ad n0 cap2):=by rw [blk_cell d0,(unhide HK).al r.s hs3,unhide HLV]
        clear d0
        go_simp
        exact ⟨_,rfl,Far.refl _ _,rfl⟩
       ·go_simp
        exact ⟨_,rfl,Far.refl _ _,rfl⟩
       ·have d0:=(unhide HBZ).blk (unhide H6) (by
         rintro ⟨q,hq,g1,g2,g3⟩
         simp at hq
         rcases hq with rfl | rfl
         ·exact hu6 g3
         ·exact hp6 g3)
        have d1:y8.cell? ⟨g6,2,none⟩=some (.string r.b):=blk_cell (i:=2) d0
        clear d0
        go_simp
        exact ⟨_,rfl,Far.refl _ _,rfl⟩
       ·go_simp
        exact ⟨_,rfl,far_below ((Below.refl _ _).alloc (Nat.le_refl _) _),_,rfl,hzz,heap_alloc_new y8 _⟩
       ·have hoz:=(unhide HROW).far (unhide HBZ) (by
         rintro g hg ⟨q,hq,g1,g2,g3⟩
         simp at hq
         rcases hq with rfl | rfl
         ·exact g1 rfl
         ·have g3:g=p:=g3
          exact hup (by rw [hg,g3]))
        obtain ⟨g,hg,hgB,hgh⟩:=hf.2
        have hoz2:RowO y8 9 1 (.slice ad n0 cap2) n0 (strs (logs r.s)):=by rw [← unhide HLV];exact hoz
        refine step_app_o rfl (.tmp 39) (.tmp 42) 33 rfl 9 _ 1 16 Tryz.underlying33 infoStr rfl (.slice ad n0 cap2) n0 (strs (logs r.s)) hoz2 (by simp [Act.eval,hf]) ⟨g,0,none⟩ 1 1 [.string r.b] (by simp [Act.eval,hg]) rfl ?_ (by intro u hu;simp at hu;subst hu;rfl) (by omega) (by omega) (by omega) ?_
        ·intro k u hk
         rw [add_mk,blk_cell hgh,Nat.zero_add]
         simpa using hk
        ·intro v' w' g1 g2
         have hgr:=g2.grown
         rw [← unhide HLV] at hgr g2
         exact ⟨v',rfl,footOf_of (.head _) (far_grown hgr),g1,loc_app hzz g2,Nat.le_trans hzz hgr.size⟩
       ·go_simp
        exact ⟨_,rfl,Far.refl _ _,rfl⟩
       ·go_simp
        exact ⟨_,rfl,Far.refl _ _,rfl⟩
       ·have hFz:Far (fun k => (lv r.s).ownBlock=some k) z y8:=(unhide HBZ).mono (by
         rintro k _ ⟨q,hq,g1,g2,g3⟩
         simp at hq
         rcases hq with rfl | rfl
         ·exact g3
         ·exact absurd rfl g1)
        have d0:=hFz.blk (unhide HK).blk hup
        have f1:y8.frozen? ⟨p,2+r.s * 3,none⟩=false:=blk_free d0
        have d1:y8.cell? ⟨p,2+r.s * 3,none⟩=some (.slice ad n0 cap2):=by rw [blk_cell d0,(unhide HK).al r.s hs3,unhide HLV]
        obtain ⟨hv41,hrw⟩:=hf
        obtain ⟨ad3,cap3,hv39,_⟩:=hrw.1.shape
        have HRW:=hide hrw
        have HFZ:=hide hFz
        clear hrw d0 hFz
        rw [hv39] at HRW
        go_simp
        refine ⟨footOf_of (.tail _ (.head _)) (far_set y8 p (2+r.s * 3) _),?_⟩
        obtain ⟨R1,R2,_⟩:=unhide HRW
        have hF2:=(unhide HF).1
        have hN2:=(unhide HF).2
        have hroom:(logs 0).length+(logs 1).length+(logs 2).length < 120:=by
         have h1:=(unhide HN).2.2
         have h2:=(unhide HCC).1
         omega
        have hkl:=ksAt_log (unhide HK) r.s hs3 r.b (.slice ad3 (n0+1) cap3) (unhide HFZ) (by rw [← unhide HN0,show strs (logs r.s ++ [r.b])=strs (logs r.s) ++ [.string r.b] by simp [strs]];exact R1) R2 hroom
        have hF3:Far (fun k => k=p) w y8:=hF2.trans (unhide HFZ) (fun k hk h => absurd (hN2 r.s hs3 k h) (by omega))
        refine ⟨_,_,hkl,hF3.trans (far_set y8 p (2+r.s * 3) _) (fun _ _ h => h),fun i hi g hg => ?_⟩
        split at hg
        ·rcases R2 with h3 | h3 | ⟨k,h3,h4⟩
         ·rw [h3] at hg;cases hg
         ·rw [h3] at hg;exact hN2 r.s hs3 g hg
         ·rw [h3] at hg;cases hg
          have:=hF2.size
          omega
        ·exact hN2 i hi g hg
      ·intro f3 z3 hF3 hwd
       have hput:=hwd.2.2.2.2.2.2.2.2.2.2.2.1
       have HP3:=hide hput
       clear hput hwd hF3
       simp only [mergeT]
       generalize f3 35=v35
       generalize f3 36=v36
       generalize f3 37=v37
       generalize f3 38=v38
       generalize f3 39=v39
       generalize f3 40=v40
       generalize f3 41=v41
       generalize f3 42=v42
       generalize f3 43=v43
       generalize f3 44=v44
       generalize f3 45=v45
       go_wp2
       go_roundw
       case rel =>
        refine ⟨j+1,by omega,by go_num,_,?_,unhide HP3⟩
        rw [unhide HST,if_neg (unhide HQ).1,if_pos ⟨by rw [(unhide HN).1];exact (unhide HCC).1,by rw [(unhide HCC).2];exact (unhide HN).2.1⟩]
       case measure => simp [intOf];omega
     ·have c2':((r.q:Int) != (nx:Int))=true:=by simp;omega
      have hbad:Hid (Mod.skLd rs 0 (fun _ => [])=none):=by
       refine hide (skLd_bad (j:=j+1) ?_)
       rw [unhide HST,if_neg (unhide HQ).1,if_neg (fun h => c2 (by rw [h.2,(unhide HN).2.1]))]
      clear c1 c2
      go_quiet (first
       | (go_at_call 129;exact Calls.quiet_of_same (unhide (hCM _)))
       | (go_at_call 130;exact Calls.quiet_of_same (unhide (hNX _))))
      go_wp2
      go_ret
      refine ⟨ret_b (by rw [unhide hbad];rfl),(unhide HK).2.1.trans (far_drewN (fun _ => False) y _) (fun _ _ h => h.elim),fun l h => ?_⟩
      rw [unhide hbad] at h
      cases h
    ·have c1':((j:Int) != (cn:Int))=true:=by simp;omega
     have hbad:Hid (Mod.skLd rs 0 (fun _ => [])=none):=by
      refine hide (skLd_bad (j:=j+1) ?_)
      rw [unhide HST,if_neg (unhide HQ).1,if_neg (fun h => c1 (by rw [h.1,(unhide HN).1]))]
     clear c1
     go_quiet (first
      | (go_at_call 129;exact Calls.quiet_of_same (unhide (hCM _)))
      | (go_at_call 130;exact Calls.quiet_of_same (unhide (hNX _))))
     go_wp2
     go_ret
     refine ⟨ret_b (by rw [unhide hbad];rfl),(unhide HK).2.1.trans (far_drewN (fun _ => False) y _) (fun _ _ h => h.elim),fun l h => ?_⟩
     rw [unhide hbad] at h
     cases h
  ·have hjm:j=m:=by omega
   have hall:Mod.skLd rs 0 (fun _ => [])=some logs:=by
    rw [← hsk,List.take_of_length_le (by have:=unhide HML;omega)]
   have HALL:=hide hall
   have HL:=hide hL
   clear hall hsk hL hjm
   go_wp2
   go_ret
   refine ⟨ret_b (by rw [unhide HALL];rfl),?_,fun l h => ?_⟩
   ·obtain ⟨_,_,_,F,_⟩:=unhide HL
    exact F
   ·rw [unhide HALL] at h
    cases h
    exact unhide HL
end Go.Proofs.YtamafdcnbcoegabGreat
namespace Go.Proofs.YtamafdcnbcoegabGreat
open Go.RowKit
def NewSt2 (o h:Nat) (B:Nat) (L:List UInt8) (s:Nat) (w:World):Prop:=∃ p,NewDk B L p w∧B ≤ s∧w.heap[s]? = some (.cells #[ptrTo p,.int .u32 o,.int .u64 0,.int .i64 h] 190 (0,0))
theorem newSt2_below {o h B:Nat} {L:List UInt8} {s:Nat} {w x:World} (H:NewSt2 o h B L s w) (hb:Below w.heap.size w x):NewSt2 o h B L s x:=H.imp fun _ h => ⟨newDk_below h.1 hb,h.2.1,(hb.block _ (lt_of_block h.2.2)).trans h.2.2⟩
set_option maxRecDepth 100000 in
set_option maxHeartbeats 4000000 in
theorem storeOpen_yes (w:World) (v:Value) (L:List UInt8) (m:Nat) (hat:BytesAt w v L) (hL:L.length=m * 64) (hm1:2 ≤ m) (hm2:m ≤ 150) {h:Mod.Hd} {at':Nat} {rs:List Mod.Rc} (ho:Mod.openSt L=some (h,at',rs)) :
  Calls Tryz.prog 74 #[v] w fun r w' => ∃ s dp lv uv rv,r = .returned (.tuple #[ptrTo s,.agg #[.int .i64 h.a,.int .i64 h.b,.int .i64 h.d,rv],.int .i64 0]) ∧
   StAt w' s dp ((⟨h.o+1,0,at',⟨L,0,false⟩⟩:Mod.Stv).putNumbers h.a h.b h.d).2 lv uv∧(∀ k,StU s dp lv uv k→w.heap.size ≤ k)∧w'.ownsRow w.heap.size 150 3 rv (m - 2) (rcRow rs)∧Below w.heap.size w w':=by
 obtain ⟨hne,hrf⟩:=Mod.openSt_some ho
 obtain ⟨hat1,hok,hhd,_⟩:=Mod.newest_some hne
 have hsm:=Mod.headIs_small hok
 rw [← hhd] at hsm
 rw [show L.length / 64=m by omega] at hrf
 have hH:=hide (fun y (hb:Below w.heap.size w y) => newestHead_any y v L (hat.below hb) (by omega) (by omega))
 have hR:=hide (fun y (hb:Below w.heap.size w y) => readRecords_any y v L m h.o (hat.below hb) hL hm1 hm2)
 rw [hrf] at hR
 have HNE:=hide hne
 have HAT:=hide hat1
 obtain ⟨so,sc,sa,sb,sd⟩:=hsm
 have hLl:128 ≤ L.length∧L.length ≤ 10000:=by omega
 have hD:=hide (fun y (hb:Below w.heap.size w y) => diskNew_any y v L (hat.below hb) hLl.1 hLl.2)
 clear hat hL ho hne hrf hhd hok sc hat1
 have w1:IntKind.u32.wrap ((h.o:Int)+1)=((h.o+1:Nat):Int):=by rw [IntKind.wrap_u32];omega
 unfold ptrTo
 go_enter Tryz.func74,Tryz.ntmps74
 go_upto_region 2 with (go_at_call 111;refine ((unhide hH) _ ((Below.refl _ _).alloc (Nat.le_refl _) _)).mono ?_;rintro r y ⟨h2,k2,rfl,hhk,hb1⟩;obtain ⟨e1,e2⟩:=hhk _ _ (unhide HNE);rw [unhide HNE];subst e1;subst e2;clear hhk;unfold hdVal)
 have hz1:=hb1.size
 simp only [World.size_alloc] at hz1
 have hb0:Below w.heap.size w y:=((Below.refl _ _).alloc (Nat.le_refl _) _).trans (hb1.mono (by simp))
 have hy0:=(hb1.block w.heap.size (by simp)).trans (heap_alloc_new w _)
 obtain ⟨g5,hg5⟩:∃ g,g=y.heap.size:=⟨_,rfl⟩
 rw [← hg5]
 refine wp_world (fun x => x.heap[w.heap.size]? = some (.cells #[.int .i64 0,.int .i64 0,.int .i64 0,.slice none 0 0] 143 (0,0))∧x.heap[g5]? = some (.cells #[.int .u32 h2.o,.int .u64 h2.c,.int .i64 h2.a,.int .i64 h2.b,.int .i64 h2.d] 199 (0,0))∧Below w.heap.size w x) ?_ ?_
 ·exact ⟨(hao _ _ (by omega)).trans hy0,by rw [hg5];exact heap_alloc_new _ _,hb0.alloc (by omega) _⟩
 have hg5w:w.heap.size < g5:=by omega
 clear hy0 hb0 hz1 hb1 hg5 hH
 rintro x ⟨h0,h5,hB⟩
 have e0:x.cell? ⟨g5,0,none⟩=some (.int .u32 h2.o):=blk_cell (i:=0) h5
 have H0:=hide h0
 have H5:=hide h5
 have HB:=hide hB
 have hzx:=lt_of_block h5
 clear h0 h5 hB
 go_upto_region 7 with (go_at_call 112;refine ((unhide hR) _ (unhide HB)).mono ?_;rintro r y2 ⟨rv,rfl,hrv,hb2⟩;replace hrv:=hrv _ rfl)
 have hrv:=ownsRow_monoB hrv (B':=w.heap.size) (by omega)
 have hbw:Below w.heap.size w y2:=(unhide HB).trans (hb2.mono (by omega))
 have y0:=(hb2.block _ (by omega)).trans (unhide H0)
 have y5:=(hb2.block _ (by omega)).trans (unhide H5)
 obtain ⟨ra,rc,rfl,_⟩:=(RowO.of_own (ownsRow_monoB hrv (Nat.zero_le _))).shape
 have HRV:=hide hrv
 have HBW:=hide hbw
 have Y0:=hide y0
 have Y5:=hide y5
 have hzy:=hbw.size
 have hg5y:=lt_of_block y5
 clear hrv hbw y0 y5 hb2 HB H0 H5 hR e0 hzx
 refine wp_region_foot (by kernel_rfl)
  [fun u _ => u=v,fun u z => ∃ p,u = .pointer (some ⟨p,0,none⟩)∧NewDk w.heap.size L p z,fun u _ => u = .pointer (some ⟨g5,0,none⟩),fun u _ => u = .pointer (some ⟨g5,0,none⟩),fun u _ => u = .int .u32 h2.o,fun u _ => u = .int .u32 (h2.o+1:Nat),fun u _ => u = .agg #[.int .u32 (h2.o+1:Nat),.int .u64 0],fun u _ => u = .int .i64 k2,
   fun u z => ∃ p,u = .agg #[.pointer (some ⟨p,0,none⟩),.int .u32 (h2.o+1:Nat),.int .u64 0,.int .i64 k2] ∧ NewDk w.heap.size L p z,fun u z => ∃ s,u = .pointer (some ⟨s,0,none⟩)∧NewSt2 (h2.o+1) k2 w.heap.size L s z,fun u z => ∃ s,u = .pointer (some ⟨s,0,none⟩)∧NewSt2 (h2.o+1) k2 w.heap.size L s z]
  [[(0,none)],[(30,some 0)],[(5,none)],[(32,some 2)],[(33,some 3)],[(34,some 4)],[(35,some 5)],[(6,none)],[(31,some 1),(36,some 6),(37,some 7)],[(38,some 8)],[(39,some 9)]] [some 30,some 31,some 32,some 33,some 34,some 35,some 36,some 37,some 38,some 39,some 9] [false,false,false,false,false,false,false,false,false,true,false,false,false,false,false,false,false,false,false,false,false,false,false,false,false,false,false,false,false,false,true,true,true,true,true,true,true,true,true,true,false,false,false,false,false,false,false,false,false]
  []
  (by kernel_rfl) (by kernel_rfl) (by kernel_rfl) (by kernel_rfl) (by kernel_rfl) ?_ ?_ ?_ ?_
 ·repeat' (first | exact stable_eq _ | exact (fun _ _ _ h hb => h.imp fun _ h => ⟨h.1,newDk_below h.2 hb⟩) | exact (fun _ _ _ h hb => h.imp fun _ h => ⟨h.1,newSt2_below h.2 hb⟩) | exact trivial | apply And.intro)
 ·exact trivial
 ·refine ⟨?_,?_,?_,?_,?_,?_,?_,?_,?_,?_,?_,trivial⟩
  all_goals
   intro a z hb hf
   have z5:=hb.blk (unhide Y5) (footBut_no (by intro q hq;cases hq))
   have hbz:Below w.heap.size w z:=(unhide HBW).trans ((hb.below (B:=y2.heap.size) (Nat.le_refl _) (fun j _ h => by
    obtain ⟨q,hq,_⟩:=h
    cases hq)).mono hzy)
   have e0:z.cell? ⟨g5,0,none⟩=some (.int .u32 h2.o):=blk_cell (i:=0) z5
   have HBZ:=hide hbz
   clear z5 hb hbz
   simp only [PlanFacts,List.getD_cons_zero,List.getD_cons_succ,Array.getD_eq_getD_getElem?] at hf
   try simp at hf
  ·go_simp
   exact ⟨_,rfl,Far.refl _ _,rfl⟩
  ·have HC:=hide ((unhide hD) z (unhide HBZ))
   have hzz:=(unhide HBZ).size
   unfold ptrTo at HC
   go_simp
   refine (unhide HC).mono ?_
   rintro r z2 ⟨p,lv,rfl,k1,k2,k3⟩
   exact ⟨_,rfl,far_below k2,p,rfl,lv,k1,fun k hk => Nat.le_trans hzz (k3 k hk)⟩
  iterate 6
   ·go_simp
    exact ⟨_,rfl,Far.refl _ _,rfl⟩
  ·obtain ⟨⟨p,hp,hn⟩,hf⟩:=hf
   have HN:=hide hn
   clear hn
   go_simp
   exact ⟨_,rfl,Far.refl _ _,p,rfl,unhide HN⟩
  ·obtain ⟨p,hp,hn⟩:=hf
   have HN:=hide hn
   have hzz:=(unhide HBZ).size
   clear hn
   go_simp
   refine ⟨_,rfl,far_below ((Below.refl _ _).alloc (Nat.le_refl _) _),_,rfl,p,newDk_below (unhide HN) ((Below.refl _ _).alloc (Nat.le_refl _) _),hzz,heap_alloc_new _ _⟩
  ·obtain ⟨s,hs,hn⟩:=hf
   have HN:=hide hn
   clear hn
   go_simp
   exact ⟨_,rfl,Far.refl _ _,s,rfl,unhide HN⟩
 ·intro f z hF hwd
  obtain ⟨s,hs9,dp,⟨lv,hdk,hnew⟩,hsB,hsb⟩:=hwd.2.2.2.2.2.2.2.2.2.2.1
  have hbz:Below y2.heap.size y2 z:=hF.below (Nat.le_refl _) (fun j _ h => by
   obtain ⟨q,hq,_⟩:=h
   cases hq)
  have ST:StAt z s dp ⟨h2.o+1,0,k2,⟨L,0,false⟩⟩ lv (.slice none 0 0):=⟨hsb,hdk,by show h2.o+1 < _;omega,by simp,unhide HAT⟩
  have hnewS:∀ k,StU s dp lv (.slice none 0 0) k→w.heap.size ≤ k:=by
   rintro k (rfl | hk)
   ·exact hsB
   ·exact hnew k hk
  have z0:=(hbz.block _ (by omega)).trans (unhide Y0)
  have z5:=(hbz.block _ hg5y).trans (unhide Y5)
  have e2:z.cell? ⟨g5,2,none⟩=some (.int .i64 h2.a):=blk_cell (i:=2) z5
  have e3:z.cell? ⟨g5,3,none⟩=some (.int .i64 h2.b):=blk_cell (i:=3) z5
  have e4:z.cell? ⟨g5,4,none⟩=some (.int .i64 h2.d):=blk_cell (i:=4) z5
  have HW:=hide (writeNumbers_any z s dp _ lv _ ST h2.a h2.b h2.d (by omega) (by omega) (by omega))
  have hrz:=ownsRow_keepB (w':=z) (unhide HRV) (fun g hg => hbz.block g (World.ownsRow.lt (unhide HRV) g hg).2)
  have HRZ:=hide hrz
  have HBZ:=hide ((unhide HBW).trans (hbz.mono hzy))
  have Z0:=hide z0
  have Z5:=hide z5
  have hSn:¬ StU s dp lv (.slice none 0 0) w.heap.size:=by
   rintro (h | h)
   ·rw [← h,z0] at hsb
    cases hsb
   ·exact dk_ne hdk z0 (by decide) (by decide) (by decide) h
  have hS5:¬ StU s dp lv (.slice none 0 0) g5:=by
   rintro (h | h)
   ·rw [← h,z5] at hsb
    cases hsb
   ·exact dk_ne hdk z5 (by decide) (by decide) (by decide) h
  have hSr:∀ g,(Value.slice ra (m - 2) rc).ownBlock=some g→¬ StU s dp lv (.slice none 0 0) g:=by
   rintro g hg (h | h | h | h)
   ·exact (RowO.of_own (ownsRow_monoB hrz (Nat.zero_le _))).ne hsb (by decide) (by rw [hg,h])
   ·exact (RowO.of_own (ownsRow_monoB hrz (Nat.zero_le _))).ne hdk.blk (by decide) (by rw [hg,h])
   ·exact (RowO.of_own (ownsRow_monoB hrz (Nat.zero_le _))).ty (RowO.of_own hdk.row) (by decide) hg h
   ·cases h
  have hzz:=hbz.size
  clear hwd hF hbz z0 z5 hdk hsb hrz HRV HBW Y0 Y5 hD ST
  simp only [mergeT,hs9]
  generalize f 30=x30
  generalize f 31=x31
  generalize f 32=x32
  generalize f 33=x33
  generalize f 34=x34
  generalize f 35=x35
  generalize f 36=x36
  generalize f 37=x37
  generalize f 38=x38
  generalize f 39=x39
  go_simp
  unfold ptrTo at HW
  go_upto_region 9 with (go_at_call 114;refine (unhide HW).mono ?_;rintro r z2 ⟨rfl,uv,k1,k2,k3⟩;replace k1:=hide k1;replace k2:=hide k2;replace k3:=hide k3)
  have K3:=unhide k3
  have z0:=K3.blk (unhide Z0) hSn
  have z5:=K3.blk (unhide Z5) hS5
  have hr2:=ownsRow_keepB (w':=z2) (unhide HRZ) (fun g hg => K3.rest g (World.ownsRow.lt (unhide HRZ) g hg).2 (hSr g hg))
  have hbz2:Below w.heap.size w z2:=(unhide HBZ).trans (K3.below (by omega) (fun k hk h => by have:=hnewS k h;omega))
  have HR2:=hide hr2
  have HB2:=hide hbz2
  have Z0':=hide z0
  have Z5':=hide z5
  have hz2:=hbz2.size
  have hz2g:=lt_of_block z5
  have hzn:=lt_of_block z0
  clear K3 z0 z5 hr2 hbz2 HRZ HBZ Z0 Z5 e2 e3 e4 HW
  refine wp_region_foot (by kernel_rfl)
   [fun u _ => u = .pointer (some ⟨s,0,none⟩),fun u _ => u = .pointer (some ⟨g5,2,none⟩),fun u _ => u = .agg #[.int .i64 h2.a,.int .i64 h2.b,.int .i64 h2.d],fun u _ => u = .slice ra (m - 2) rc,fun u _ => u = .agg #[.int .i64 h2.a,.int .i64 h2.b,.int .i64 h2.d,.slice ra (m - 2) rc],fun u _ => u = .pointer (some ⟨s,0,none⟩),
    fun _ q => q.heap[w.heap.size]? = some (.cells #[.int .i64 h2.a,.int .i64 h2.b,.int .i64 h2.d,.slice ra (m - 2) rc] 143 (0,0)),fun u _ => u = .int .i64 0]
   [[(9,none)],[(5,none)],[(45,some 1)],[(8,none)],[(46,some 2),(47,some 3)],[(44,some 0)],[(3,none),(48,some 4)],[]] [some 44,some 45,some 46,some 47,some 48,some 2,none,some 4] [false,false,true,false,true,false,false,false,false,false,false,false,false,false,false,false,false,false,false,false,false,false,false,false,false,false,false,false,false,false,false,false,false,false,false,false,false,false,false,false,false,false,false,false,true,true,true,true,true]
   [(6,fun k => k=w.heap.size)]
   (by kernel_rfl) (by kernel_rfl) (by kernel_rfl) (by kernel_rfl) (by kernel_rfl) ?_ ?_ ?_ ?_
  ·repeat' (first | exact stable_eq _ | exact stable_blk _ _ | exact trivial | apply And.intro)
  ·repeat' (first | exact trivial | exact .inl rfl | exact .inr (.inr (stableF_eq _ _)) | apply And.intro)
  ·refine ⟨?_,?_,?_,?_,?_,?_,?_,?_,trivial⟩
   all_goals
    intro a q hb hf
    have q5:=hb.blk (unhide Z5') (footBut_no (by intro p hp;simp at hp;subst hp;intro (e:g5=w.heap.size);omega))
    have e2:q.cell? ⟨g5,2,none⟩=some (.int .i64 h2.a):=blk_cell (i:=2) q5
    have e3:q.cell? ⟨g5,3,none⟩=some (.int .i64 h2.b):=blk_cell (i:=3) q5
    have e4:q.cell? ⟨g5,4,none⟩=some (.int .i64 h2.d):=blk_cell (i:=4) q5
    clear q5
    simp only [PlanFacts,List.getD_cons_zero,List.getD_cons_succ,Array.getD_eq_getD_getElem?] at hf
    try simp at hf
   iterate 6
    ·clear hb
     go_simp
     exact ⟨_,rfl,Far.refl _ _,rfl⟩
   ·have q0:=hb.blk (unhide Z0') (by
     rintro ⟨p,hp,g1,g2,g3⟩
     simp at hp
     subst hp
     exact g1 rfl)
    clear hb
    rw [if_pos (by rfl)]
    refine wp_store_row 143 (.tmp 3) (.tmp 48) rfl w.heap.size #[.int .i64 h2.a,.int .i64 h2.b,.int .i64 h2.d,.slice ra (m - 2) rc] (by simp [Act.eval,hf]) (by simp [Act.eval,hf]) 143 _ q0 (by rw [size_contents];rfl) (by simp) (by rw [Array.all_eq_true_iff_forall_mem];intro u hu;simp at hu;rcases hu with rfl | rfl | rfl | rfl <;> rfl) ?_
    exact ⟨_,rfl,footOf_of (.head _) (far_setRow _ _ _),setRow_heap _ _ _ _ _ _ q0⟩
   ·clear hb
    go_simp
    exact ⟨_,rfl,Far.refl _ _,rfl⟩
  ·intro f q hF hwd
   have hv2:=hwd.2.2.2.2.2.1
   have h6:=hwd.2.2.2.2.2.2.1
   have h7:=hwd.2.2.2.2.2.2.2.1
   have q0:q.cell? ⟨w.heap.size,0,none⟩=some (.int .i64 h2.a):=blk_cell (i:=0) h6
   have q1:q.cell? ⟨w.heap.size,1,none⟩=some (.int .i64 h2.b):=blk_cell (i:=1) h6
   have q2:q.cell? ⟨w.heap.size,2,none⟩=some (.int .i64 h2.d):=blk_cell (i:=2) h6
   have q3:q.cell? ⟨w.heap.size,3,none⟩=some (.slice ra (m - 2) rc):=blk_cell (i:=3) h6
   have hF:Far (fun k => k=w.heap.size) z2 q:=hF.mono (fun k _ h => by
    obtain ⟨p,hp,h⟩:=h
    simp at hp
    subst hp
    exact h)
   have HF:=hide hF
   clear hwd hF h6
   simp only [mergeT,hv2,h7]
   generalize f 44=x44
   generalize f 45=x45
   generalize f 46=x46
   generalize f 47=x47
   generalize f 48=x48
   go_simp
   go_wp2
   refine bodyPost_ret (v:=.tuple #[.pointer (some ⟨s,0,none⟩),.agg #[.int .i64 h2.a,.int .i64 h2.b,.int .i64 h2.d,.slice ra (m - 2) rc],.int .i64 0]) (by simp [results,Tryz.results74,go_sem,q0,q1,q2,q3]) rfl ?_
   have hF:=unhide HF
   have K2:=unhide k2
   have hnu:∀ k,StU s dp lv uv k→w.heap.size ≤ k:=by
    rintro k (h | h | h | h)
    ·exact hnewS k (.inl h)
    ·exact hnewS k (.inr (.inl h))
    ·exact hnewS k (.inr (.inr (.inl h)))
    ·rcases K2 with k2 | k2 | ⟨g,k2,k5⟩
     ·rw [k2] at h;cases h
     ·rw [k2] at h;cases h
     ·rw [k2] at h;cases h;omega
   have hne:¬ StU s dp lv uv w.heap.size:=by
    rintro (h | h | h | h)
    ·exact hSn (.inl h)
    ·exact hSn (.inr (.inl h))
    ·exact hSn (.inr (.inr (.inl h)))
    ·exact (unhide k1).dk.un.ne (unhide Z0') (by decide) h
   exact ⟨s,dp,lv,uv,_,rfl,(unhide k1).far hF (fun k hk e => hne (by rw [← e];exact hk)),hnu,ownsRow_keepB (unhide HR2) (fun g hg => hF.rest g (World.ownsRow.lt (unhide HR2) g hg).2 (fun e => (RowO.of_own (ownsRow_monoB (unhide HR2) (Nat.zero_le _))).ne (unhide Z0') (by decide) (by rw [hg,e]))),(unhide HB2).trans (hF.below (by omega) (fun k hk e => by omega))⟩
end Go.Proofs.YtamafdcnbcoegabGreat
namespace Go.Proofs.YtamafdcnbcoegabGreat
open Go.RowKit
theorem below_set4 {w z:World} {g:Nat} (hb:Below w.heap.size w z) (hg:w.heap.size ≤ g) (a b c d:Value):Below w.heap.size w ((((z.setCell ⟨g,0,none⟩ a).setCell ⟨g,1,none⟩ b).setCell ⟨g,2,none⟩ c).setCell ⟨g,3,none⟩ d) :=
 (((hb.setCell (p:=⟨g,0,none⟩) hg _).setCell (p:=⟨g,1,none⟩) hg _).setCell (p:=⟨g,2,none⟩) hg _).setCell (p:=⟨g,3,none⟩) hg _
set_option maxRecDepth 100000 in
set_option maxHeartbeats 4000000 in
theorem storeOpen_no (w:World) (v:Value) (L:List UInt8) (m:Nat) (hat:BytesAt w v L) (hL:L.length=m * 64) (hm1:2 ≤ m) (hm2:m ≤ 150) (ho:Mod.openSt L=none) :
  Calls Tryz.prog 74 #[v] w fun r w' => r = .returned (.tuple #[.pointer none,.agg #[.int .i64 0,.int .i64 0,.int .i64 0,.slice none 0 0],.int .i64 2])∧Below w.heap.size w w':=by
 have hH:=hide (fun y (hb:Below w.heap.size w y) => newestHead_any y v L (hat.below hb) (by omega) (by omega))
 have hR:=fun last => hide (fun y (hb:Below w.heap.size w y) => readRecords_any y v L m last (hat.below hb) hL hm1 hm2)
 have hL64:L.length / 64=m:=by omega
 clear hat hL
 cases hn:Mod.newest L with
 | none =>
  have HN:=hide hn
  clear hn hR ho
  go_enter Tryz.func74,Tryz.ntmps74
  go_upto_region 2 with (go_at_call 111;refine ((unhide hH) _ ((Below.refl _ _).alloc (Nat.le_refl _) _)).mono ?_;rintro r y ⟨h2,k2,rfl,_,hb1⟩;rw [unhide HN];unfold hdVal)
  have hz1:=hb1.size
  simp only [World.size_alloc] at hz1
  have hb0:Below w.heap.size w y:=((Below.refl _ _).alloc (Nat.le_refl _) _).trans (hb1.mono (by simp))
  have hy0:=(hb1.block w.heap.size (by simp)).trans (heap_alloc_new w _)
  refine wp_world (fun x => x.heap[w.heap.size]? = some (.cells #[.int .i64 0,.int .i64 0,.int .i64 0,.slice none 0 0] 143 (0,0))∧Below w.heap.size w x) ?_ ?_
  ·exact ⟨(hao _ _ (by omega)).trans hy0,hb0.alloc (by omega) _⟩
  clear hy0 hb0 hz1 hb1 hH
  rintro x ⟨h0,hB⟩
  have q0:x.cell? ⟨w.heap.size,0,none⟩=some (.int .i64 0):=blk_cell (i:=0) h0
  have q1:x.cell? ⟨w.heap.size,1,none⟩=some (.int .i64 0):=blk_cell (i:=1) h0
  have q2:x.cell? ⟨w.heap.size,2,none⟩=some (.int .i64 0):=blk_cell (i:=2) h0
  have q3:x.cell? ⟨w.heap.size,3,none⟩=some (.slice none 0 0):=blk_cell (i:=3) h0
  have p0:∀ i,x.frozen? ⟨w.heap.size,i,none⟩=false:=fun i => blk_free h0
  have HB:=hide hB
  clear h0 hB
  go_wp2
  exact bodyPost_ret (v:=.tuple #[.pointer none,.agg #[.int .i64 0,.int .i64 0,.int .i64 0,.slice none 0 0],.int .i64 2]) (by simp [results,Tryz.results74,go_sem,q0,q1,q2,q3]) rfl ⟨rfl,below_set4 (unhide HB) (Nat.le_refl _) _ _ _ _⟩
 | some p =>
  obtain ⟨hd,at'⟩:=p
  have hrf:Mod.recsFrom L hd.o 0 (m - 2)=none:=by
   unfold Mod.openSt at ho
   rw [hn] at ho
   simp only at ho
   rw [hL64] at ho
   cases hr:Mod.recsFrom L hd.o 0 (m - 2) with
   | none => rfl
   | some rs => rw [hr] at ho;cases ho
  have HR:=hR hd.o
  rw [hrf] at HR
  have HN:=hide hn
  clear hn hR ho hrf
  go_enter Tryz.func74,Tryz.ntmps74
  go_upto_region 2 with (go_at_call 111;refine ((unhide hH) _ ((Below.refl _ _).alloc (Nat.le_refl _) _)).mono ?_;rintro r y ⟨h2,k2,rfl,hhk,hb1⟩;obtain ⟨e1,e2⟩:=hhk _ _ (unhide HN);rw [unhide HN];subst e1;subst e2;clear hhk;unfold hdVal)
  have hz1:=hb1.size
  simp only [World.size_alloc] at hz1
  have hb0:Below w.heap.size w y:=((Below.refl _ _).alloc (Nat.le_refl _) _).trans (hb1.mono (by simp))
  have hy0:=(hb1.block w.heap.size (by simp)).trans (heap_alloc_new w _)
  obtain ⟨g5,hg5⟩:∃ g,g=y.heap.size:=⟨_,rfl⟩
  rw [← hg5]
  refine wp_world (fun x => x.heap[w.heap.size]? = some (.cells #[.int .i64 0,.int .i64 0,.int .i64 0,.slice none 0 0] 143 (0,0))∧x.heap[g5]? = some (.cells #[.int .u32 h2.o,.int .u64 h2.c,.int .i64 h2.a,.int .i64 h2.b,.int .i64 h2.d] 199 (0,0))∧Below w.heap.size w x) ?_ ?_
  ·exact ⟨(hao _ _ (by omega)).trans hy0,by rw [hg5];exact heap_alloc_new _ _,hb0.alloc (by omega) _⟩
  have hg5w:w.heap.size < g5:=by omega
  clear hy0 hb0 hz1 hb1 hg5 hH
  rintro x ⟨h0,h5,hB⟩
  have e0:x.cell? ⟨g5,0,none⟩=some (.int .u32 h2.o):=blk_cell (i:=0) h5
  have H0:=hide h0
  have HB:=hide hB
  have hzx:=lt_of_block h5
  clear h0 h5 hB
  go_upto_region 5 with (go_at_call 112;refine ((unhide HR) _ (unhide HB)).mono ?_;rintro r y2 ⟨rv,rfl,_,hb2⟩)
  have hbw:Below w.heap.size w y2:=(unhide HB).trans (hb2.mono (by omega))
  have h0:=(hb2.block _ (by omega)).trans (unhide H0)
  have q0:y2.cell? ⟨w.heap.size,0,none⟩=some (.int .i64 0):=blk_cell (i:=0) h0
  have q1:y2.cell? ⟨w.heap.size,1,none⟩=some (.int .i64 0):=blk_cell (i:=1) h0
  have q2:y2.cell? ⟨w.heap.size,2,none⟩=some (.int .i64 0):=blk_cell (i:=2) h0
  have q3:y2.cell? ⟨w.heap.size,3,none⟩=some (.slice none 0 0):=blk_cell (i:=3) h0
  have p0:∀ i,y2.frozen? ⟨w.heap.size,i,none⟩=false:=fun i => blk_free h0
  have HBW:=hide hbw
  clear h0 hbw hb2 H0 HB e0 HR
  go_wp2
  exact bodyPost_ret (v:=.tuple #[.pointer none,.agg #[.int .i64 0,.int .i64 0,.int .i64 0,.slice none 0 0],.int .i64 2]) (by simp [results,Tryz.results74,go_sem,q0,q1,q2,q3]) rfl ⟨rfl,below_set4 (unhide HBW) (Nat.le_refl _) _ _ _ _⟩
end Go.Proofs.YtamafdcnbcoegabGreat
namespace Go.Proofs.YtamafdcnbcoegabGreat
open Go.RowKit
structure AgGood (N:Nat) (a:Mod.Ag):Prop where
 ep:a.epoch ≤ 2147483647
 tk:a.ticks ≤ N
 sum:∀ s,s < 3→(a.fl s).base+(a.fl s).kept.length ≤ N
 bod:∀ s,s < 3→∀ x ∈ (a.fl s).kept,x.1.size ≤ 20∧x.2 ≤ N
theorem AgGood.mono {N M:Nat} {a:Mod.Ag} (G:AgGood N a) (h:N ≤ M):AgGood M a :=
 ⟨G.ep,Nat.le_trans G.tk h,fun s hs => Nat.le_trans (G.sum s hs) h,fun s hs x hx => ⟨(G.bod s hs x hx).1,Nat.le_trans (G.bod s hs x hx).2 h⟩⟩
theorem agGood_submit {N:Nat} {a:Mod.Ag} (G:AgGood N a) (s:Nat) (b:ByteArray) (hb:b.size ≤ 20):AgGood (N+1) (a.submit s b):=by
 refine ⟨G.ep,Nat.le_succ_of_le G.tk,fun t ht => ?_,fun t ht x hx => ?_⟩
 ·have:=G.sum t ht
  unfold Mod.Ag.submit Mod.upd
  simp only
  split
  ·rename_i e
   subst e
   simp;omega
  ·omega
 ·unfold Mod.Ag.submit Mod.upd at hx
  simp only at hx
  split at hx
  ·rename_i e
   subst e
   rw [List.mem_append,List.mem_singleton] at hx
   rcases hx with hx | rfl
   ·exact ⟨(G.bod t ht x hx).1,Nat.le_succ_of_le (G.bod t ht x hx).2⟩
   ·exact ⟨hb,Nat.zero_le _⟩
  ·exact ⟨(G.bod t ht x hx).1,Nat.le_succ_of_le (G.bod t ht x hx).2⟩
theorem sendTo_mem (epoch s:Nat) (f:Mod.Flow) (ticks:Nat):∀ i,∀ y ∈ (Mod.sendTo epoch s f ticks i).1,∃ x ∈ f.kept,y.1=x.1∧(y.2=x.2 ∨ y.2=ticks)
 | 0 => fun y hy => ⟨y,hy,rfl,.inl rfl⟩
 | i+1 => by
  intro y hy
  have ih:=sendTo_mem epoch s f ticks i
  rw [Mod.sendTo] at hy
  split at hy
  ·exact ih y hy
  ·rename_i x hx
   split at hy
   ·rcases List.mem_or_eq_of_mem_set hy with hy | rfl
    ·exact ih y hy
    ·exact ⟨x,List.mem_of_getElem? hx,rfl,.inr rfl⟩
   ·exact ih y hy
theorem agGood_tick {N:Nat} {a:Mod.Ag} (G:AgGood N a):AgGood (N+1) a.tick.1:=by
 have h0:AgGood (N+1) { a with ticks:=a.ticks+1 }:=⟨G.ep,Nat.succ_le_succ G.tk,fun s hs => Nat.le_succ_of_le (G.sum s hs),fun s hs x hx => ⟨(G.bod s hs x hx).1,Nat.le_succ_of_le (G.bod s hs x hx).2⟩⟩
 unfold Mod.Ag.tick
 split
 ·exact h0
 ·split
  ·exact h0
  ·refine ⟨G.ep,Nat.succ_le_succ G.tk,fun s hs => ?_,fun s hs y hy => ?_⟩
   ·have:=G.sum s hs
    simp only [Mod.sendFl,if_pos hs,sendTo_len]
    omega
   ·simp only [Mod.sendFl,if_pos hs] at hy
    obtain ⟨x,hx,h1,h2⟩:=sendTo_mem _ _ _ _ _ y hy
    have h3:=G.bod s hs x hx
    refine ⟨h1 ▸ h3.1,?_⟩
    have:=G.tk
    rcases h2 with h2 | h2
    ·omega
    ·omega
theorem agGood_drop {N:Nat} {a:Mod.Ag} (G:AgGood N a) (n:Nat→Nat) (hn:∀ s,s < 3→n s ≤ (a.fl s).kept.length):AgGood N (a.drop n):=by
 refine ⟨G.ep,G.tk,fun s hs => ?_,fun s hs x hx => ?_⟩
 ·have:=G.sum s hs
  have:=hn s hs
  simp only [Mod.Ag.drop,Mod.dropTo,if_pos hs,Mod.Flow.drop,List.length_drop]
  omega
 ·simp only [Mod.Ag.drop,Mod.dropTo,if_pos hs,Mod.Flow.drop] at hx
  exact G.bod s hs x (List.mem_of_mem_drop hx)
theorem agGood_deliver {N:Nat} {a:Mod.Ag} (G:AgGood N a) (k e st q:Int) (b:ByteArray):AgGood N (a.deliver k e st q b):=by
 have GD:=agGood_drop G (a.says k e st q b) (fun s _ => says_le a k e st q b s)
 unfold Mod.Ag.deliver
 split
 ·exact ⟨G.ep,G.tk,G.sum,G.bod⟩
 ·split
  ·exact G
  ·split
   ·exact ⟨G.ep,G.tk,G.sum,G.bod⟩
   ·split
    ·refine ⟨GD.ep,GD.tk,fun s hs => ?_,fun s hs x hx => ?_⟩
     ·have:=GD.sum s hs
      simp only [Mod.fresh,if_pos hs,List.length_map]
      exact this
     ·simp only [Mod.fresh,if_pos hs] at hx
      obtain ⟨y,hy,rfl⟩:=List.mem_map.1 hx
      exact ⟨(GD.bod s hs y hy).1,Nat.zero_le _⟩
    ·split
     ·split
      ·exact G
      ·refine ⟨GD.ep,GD.tk,fun s hs => ?_,fun s hs x hx => ?_⟩
       ·have:=GD.sum s hs
        simp only [Mod.upd]
        split
        ·rename_i e'
         subst e'
         exact this
        ·exact this
       ·simp only [Mod.upd] at hx
        split at hx
        ·rename_i e'
         subst e'
         exact GD.bod _ hs x hx
        ·exact GD.bod s hs x hx
     ·exact G
end Go.Proofs.YtamafdcnbcoegabGreat
namespace Go.Proofs.YtamafdcnbcoegabGreat
open Go.RowKit
def agSpools (a:Mod.Ag) (i:Int):List ByteArray:=if 0 ≤ i∧i < 3 then a.spool i.toNat else []
def agSays (a:Mod.Ag) (l:List UInt8):Int × Mod.Ag :=
 if Wire.reads l=true then (0,a.deliver (Wire.kindOf l) (Wire.epochOf l) (Wire.streamOf l) (Wire.seqOf l) (Wire.bodyOf l)) else (1,a)
def agSubmits (a:Mod.Ag) (i:Int) (s:ByteArray):Mod.Ag:=if a.refuses i s.size=0 then a.submit i.toNat s else a
structure AgentC (top:Nat) where
 At:World→Nat→Mod.Ag→(Nat→Prop)→Prop
 lt:∀ {w v a U},At w v a U→∀ k,U k→k < w.heap.size
 far:∀ {w w' v a U E},At w v a U→Far E w w' → (∀ k,U k→¬ E k)→At w' v a U
 submit:∀ {w v a U N} (i:Int) (s:ByteArray),At w v a U→AgGood N a→N < top→Calls Tryz.prog 22 #[ptrTo v,.int .i64 i,.string s] w fun r w' =>
  ∃ U',r = .returned (.int .i64 (a.refuses i s.size))∧At w' v (agSubmits a i s) U' ∧ Far U w w' ∧ ∀ k,U' k→U k ∨ w.heap.size ≤ k
 deliver:∀ {w v a U N} (bs:Value) (l:List UInt8),At w v a U→AgGood N a→N < top→BytesAt w bs l→Calls Tryz.prog 16 #[ptrTo v,bs] w fun r w' =>
  ∃ U',r = .returned (.int .i64 (agSays a l).1)∧At w' v (agSays a l).2 U' ∧ Far U w w' ∧ ∀ k,U' k→U k ∨ w.heap.size ≤ k
 tick:∀ {w v a U N},At w v a U→AgGood N a→N < top→Calls Tryz.prog 13 #[ptrTo v] w fun r w' =>
  ∃ lv fs U',r = .returned lv∧FramesOut w.heap.size w' lv fs (a.tick.2.map fun l => ⟨l.toArray⟩) U' ∧ At w' v a.tick.1 U' ∧ Far U w w' ∧ ∀ k,U' k→U k ∨ w.heap.size ≤ k
 epoch:∀ {w v a U},At w v a U→Calls Tryz.prog 24 #[ptrTo v] w fun r w' => r = .returned (.int .i64 a.epoch)∧Below w.heap.size w w'
 spool:∀ {w v a U} (i:Int),At w v a U→Calls Tryz.prog 18 #[ptrTo v,.int .i64 i] w fun r w' =>
  ∃ lv,r = .returned lv∧w'.ownsRow w.heap.size 9 1 lv (agSpools a i).length (strs (agSpools a i))∧Below w.heap.size w w'
 opened:∀ {w} (bs:Value),BytesAt w bs (List.replicate 1664 0)→Calls Tryz.prog 21 #[bs] w fun r w' =>
  ∃ v U,r = .returned (.tuple #[ptrTo v,.int .i64 0])∧At w' v { epoch:=1,ticks:=0,welcome:=false,fenced:=false,fl:=fun _ => { base:=0,kept:=[],held:=[] } } U∧Below w.heap.size w w' ∧ ∀ k,U k→w.heap.size ≤ k
section
variable {top N:Nat} {C:AgentC top} {w x:World} {q sv rp:Nat} {a:Mod.Ag} {r:RRest} {kv hk:Nat→Value} {U:Nat→Prop} {left:Int} {E:Nat→Prop}
end
end Go.Proofs.YtamafdcnbcoegabGreat
namespace Go.Proofs.YtamafdcnbcoegabGreat
open Go.RowKit
def boxed2 (w:World) (p o:Nat) (m:Int):World:=(w.alloc (.cells #[.pointer (some ⟨p,o,none⟩)] 197)).alloc (.cells #[.int .i64 m] 3)
def iterA (b:Nat):Value:=.func (.func 156) #[] #[.pointer (some ⟨b,0,none⟩),.pointer (some ⟨b+1,0,none⟩)]
set_option maxHeartbeats 400000 in
theorem firstA_any (p o:Nat) (m:Int) (w:World) :
  Calls Tryz.prog 105 #[.pointer (some ⟨p,o,none⟩),.int .i64 m] w fun e w' => e = .returned (iterA w.heap.size)∧w' = boxed2 w p o m:=by
 go_enter Tryz.func105,Tryz.ntmps105
 go_wp2
 go_ret
 exact ⟨rfl,rfl⟩
set_option maxHeartbeats 400000 in
theorem allA_any {w:World} {p o:Nat} {arr:Array Value} {t:TypeId} {nv mv:Value} {l:List (Nat × Value)} (hb:w.heap[p]? = some (.cells arr t (0,0))) (h0:arr[o]? = some nv) (S:ShelfIs w nv mv l) :
  Calls Tryz.prog 73 #[.pointer (some ⟨p,o,none⟩)] w fun e w' => e = .returned (iterA w.heap.size)∧w' = boxed2 w p o l.length:=by
 have H:=hide (lenA_any hb h0 S)
 clear S hb h0
 go_enter Tryz.func73,Tryz.ntmps73
 go_wp2_with (first | (go_at_call 110;refine (unhide H).mono ?_;rintro e w' ⟨rfl,rfl⟩) | (go_at_call 105;refine (firstA_any _ _ _ _).mono ?_;rintro e w' ⟨rfl,rfl⟩))
 go_ret
 exact ⟨rfl,rfl⟩
end Go.Proofs.YtamafdcnbcoegabGreat
namespace Go.Proofs.YtamafdcnbcoegabGreat
open Go.RowKit
attribute [local go_sem] Oper.semAt_some
structure IterAt (W:World) (b p o:Nat) (m:Nat) (nv mv:Value) (l:List (Nat × Value)):Prop where
 c1:W.cell? ⟨b,0,none⟩=some (.pointer (some ⟨p,o,none⟩))
 c2:W.cell? ⟨b+1,0,none⟩=some (.int .i64 m)
 s0:W.cell? ⟨p,o,none⟩=some nv
 s1:W.cell? ⟨p,o+1,none⟩=some mv
 sh:ShelfIs W nv mv l
theorem look_at {l:List (Nat × Value)} (hs:(l.map (·.1)).Pairwise (· < ·)) {k:Nat} (hk:k < l.length):look l (l[k].1:Int)=some l[k].2:=by
 induction l generalizing k with
 | nil => simp at hk
 | cons x r ih =>
  rw [List.map_cons,List.pairwise_cons] at hs
  obtain ⟨h0,hs⟩:=hs
  cases k with
  | zero => rw [look_cons,List.getElem_cons_zero,if_pos rfl]
  | succ k =>
   have hk':k < r.length:=by simpa using hk
   rw [look_cons,List.getElem_cons_succ,if_neg,ih hs hk']
   have:=h0 r[k].1 (List.mem_map.2 ⟨r[k],List.getElem_mem hk',rfl⟩)
   omega
set_option maxRecDepth 100000 in
set_option maxHeartbeats 2000000 in
theorem iterA_in (n lp b p o m:Nat) (nv mv:Value) (l:List (Nat × Value)) (A:AreA l) (J:Nat→World→Prop) (Jx:World→Prop)
  (hJI:∀ i W,J i W→IterAt W b p o m nv mv l) (hJd:∀ i W k,J i W→J i (W.drewN k))
  (hY:∀ i W (h:i < l.length),i < m→J i W→YieldAt Fence.wide (n - 1) Tryz.prog lp #[.int .i64 (l[i].1:Nat),l[i].2] W fun e W' => (e = .returned (.bool true)∧J (i+1) W') ∨ (e = .returned (.bool false)∧Jx W'))
  (W:World) (h0:J 0 W) :
  CallsIn Fence.wide n Tryz.prog 156 #[.func (.yield lp) #[] #[],.pointer (some ⟨b,0,none⟩),.pointer (some ⟨b+1,0,none⟩)] W fun e W' => (∃ v,e = .returned v)∧(J (min m l.length) W' ∨ Jx W'):=by
 have R:=hJI 0 W h0
 obtain ⟨c1,c2,s0,s1,S⟩:=R
 have hlen:=S.len
 have hll:(l.map (·.1)).length=l.length:=List.length_map _
 obtain ⟨ce,hce⟩:∃ ce,ce=min m l.length:=⟨_,rfl⟩
 rw [← hce]
 have hce1:ce ≤ m:=by omega
 have hce2:ce ≤ l.length:=by omega
 have hmin:min (m:Int) (l.length:Int)=ce:=by omega
 refine callsIn_of_wp Tryz.func156 rfl trivial ?_ rfl
 refine wpIn_wide.2 ?_
 simp only [Tryz.ntmps156,List.size_toArray,List.length_cons,List.length_nil,Nat.reduceAdd,Nat.reduceSub,Array.replicate_succ,Array.replicate_zero,List.push_toArray,List.append_toArray,List.nil_append,List.cons_append]
 rcases S.nums.cases with ⟨hnv,hlz⟩ | ⟨g,cap,cur,hnv,hh,hn,hc,hz,htk⟩
 ·subst hnv
  obtain rfl:l = []:=by simpa using hlz
  obtain rfl:ce=0:=by simpa using hce2
  have hmin0:min (m:Int) 0=0:=by omega
  clear S hll hmin hce hce1 hce2 hlz
  go_wp2
  go_quiet (fail)
  go_wp2
  go_loopw [5,19] (fun _ i wr => i = .int .i64 0∧J 0 wr) (fun _ _ _ => 0)
  case atStart => exact ⟨rfl,hJd 0 W _ h0⟩
  case round =>
   obtain ⟨rfl,hJ⟩:=hrel
   go_wp2
   refine bodyPost_end (results_none rfl _ _ _) rfl ?_
   exact ⟨⟨_,rfl⟩,.inl hJ⟩
 ·rw [hll] at hnv hn
  subst hnv
  clear S htk hll
  replace hce:=hide hce
  go_wp2
  go_quiet (fail)
  go_wp2
  go_loopw [5,19] (fun _ i wr => ∃ k:Nat,k ≤ ce∧i = .int .i64 k∧J k wr) (fun _ i _ => l.length - (intOf i).toNat)
  case atStart => exact ⟨0,by omega,rfl,hJd 0 W _ h0⟩
  case round =>
   obtain ⟨k,hk,rfl,hJ⟩:=hrel
   by_cases hlt:k < ce
   ·have hkl:k < l.length:=by omega
    obtain ⟨c1,c2,s0,s1,S⟩:=hJI k wr hJ
    obtain ⟨x1,x2,hx⟩:=A l[k] (List.getElem_mem hkl)
    have cn:wr.cell? ⟨g,k,none⟩=some (.int .i64 (l[k].1:Int)):=by
     rw [S.nums.cell' (by simpa using hkl)]
     simp [List.getD_eq_getElem?_getD,hkl]
    have hrun:=(run_lookup_i (P:=Tryz.prog) (w:=wr) (t:=102) Tryz.underlying102 Tryz.underlying3 (zero_A wr) S.map (l[k].1:Int)).2
    rw [look_at S.sorted hkl,hx] at hrun
    have hY1:=hY k wr hkl (by omega) hJ
    rw [hx] at hY1
    simp only [Option.getD_some,recA] at hrun hY1
    obtain ⟨fn,tmps,assign,body,hy,hR⟩:=hY1
    clear S hx
    generalize l[k].1=xn at *
    go_upto_region 3 with fail
    refine (wpIn_wide (n:=n)).1 ?_
    gi_wp2
    refine ⟨fun h => by simp [Fence.wide] at h,hR.mono ?_⟩
    rintro e W3 (⟨rfl,hJ3⟩ | ⟨rfl,hJx3⟩)
    ·gi_wp2
     go_wp2
     go_roundw
     case rel => exact ⟨k+1,by omega,by go_num,hJ3⟩
     case measure => simp [intOf];omega
    ·gi_wp2
     go_wp2
     refine bodyPost_ret (results_none rfl _ _ _) rfl ?_
     exact ⟨⟨_,rfl⟩,.inr hJx3⟩
   ·obtain rfl:k=ce:=by omega
    go_wp2
    refine bodyPost_end (results_none rfl _ _ _) rfl ?_
    exact ⟨⟨_,rfl⟩,.inl hJ⟩
end Go.Proofs.YtamafdcnbcoegabGreat
namespace Go.Proofs.YtamafdcnbcoegabGreat
open Go.RowKit
structure Same2 (D:Nat) (W W':World):Prop where
 os:W'.os=W.os
 tape:W'.tape=W.tape
 output:W'.output=W.output
 size:W'.heap.size=W.heap.size
 rest:∀ k,k ≠ D→k ≠ D+1→W'.heap[k]? = W.heap[k]?
theorem same2_put (D:Nat) (W:World) (o:Obj):Same2 D W (W.putObj (D+1) o) :=
 ⟨rfl,rfl,rfl,World.putObj_size,fun _ _ h => World.putObj_heap_other h⟩
theorem same2_drew (D:Nat) (W:World) (n:Nat):Same2 D W (W.drewN n):=⟨rfl,rfl,rfl,rfl,fun _ _ _ => rfl⟩
def roundEnd (D:Nat) (I:World→Prop) (W:World):Exit→Act→World→Prop
 | .normal,_,W' => W'.heap[D]? = W.heap[D]? ∧ W'.heap[D+1]? = W.heap[D+1]? ∧ I W'
 | _,_,_ => False
theorem range_first {g:Operand} {ps:Array Tmp} {assign body:Code} {Q:Exit→Act→World→Prop} {a:Act} {w:World} (n b p o m:Nat) (nv mv:Value) (l:List (Nat × Value)) (A:AreA l)
  (hg:a.eval g=iterA b) (hps:ps.size=2) (I:Nat→World→Prop) (hI:∀ i W W',I i W→Same2 w.heap.size W W' → I i W') (hIt:∀ i W,I i W→IterAt W b p o m nv mv l)
  (h0:∀ W,Below w.heap.size w W→W.heap.size=w.heap.size+2→I 0 W)
  (hround:∀ i (hi:i < l.length) W,i < m→I i W→w.heap.size+2 ≤ W.heap.size →
   assign.wpIn (Fence.wide.inRound (w.heap.size+1)) (n - 1 - 1) Tryz.prog (Exit.then (fun a₁ W₁ => (W₁.heap[w.heap.size]? = W.heap[w.heap.size]? ∧ W₁.heap[w.heap.size+1]? = W.heap[w.heap.size+1]?) ∧
     ∀ W₂,Same2 w.heap.size W₁ W₂→body.wpIn (Fence.wide.inRound (w.heap.size+1)) (n - 1 - 1) Tryz.prog (roundEnd w.heap.size (I (i+1)) W₂) a₁ W₂) (fun _ _ _ => False))
    { tmps:=(ps.zip #[.int .i64 (l[i].1:Nat),l[i].2]).foldl (fun t (p,v) => t.setIfInBounds p v) a.tmps,defers:=[] } W)
  (hsz:∀ i W,I i W→w.heap.size+2 ≤ W.heap.size)
  (hdone:∀ W,I (min m l.length) W→W.heap[w.heap.size]? = some (.deferred (some []))→Q .normal { a with defers:={ target:=.collected w.heap.size,args:=#[] } :: a.defers } W) :
  (Code.rangeFunc g ps assign body).wpIn Fence.wide n Tryz.prog Q a w:=by
 refine wpIn_rangeFunc ?_
 intro fn hfn
 obtain ⟨rec,hrec⟩:∃ rec:LoopState→Loop,rec=fun st => { state:=st,pending:=none,fn,tmps:=a.tmps,params:=ps,assign,body,defers:=w.heap.size }:=⟨_,rfl⟩
 obtain ⟨W1,hW1⟩:∃ W1,(w.alloc (.deferred (some []))).alloc (.loop (rec .ready))=W1:=⟨_,rfl⟩
 have hL1:W1.heap[w.heap.size+1]? = some (.loop (rec .ready)):=by
  rw [← hW1]
  have:=World.alloc_heap_new (w.alloc (.deferred (some []))) (.loop (rec .ready))
  rwa [World.size_alloc] at this
 have hK1:W1.heap[w.heap.size]? = some (.deferred (some [])):=by
  rw [← hW1]
  exact (Below.heap_alloc _ _ _ (by simp)).trans (World.alloc_heap_new w _)
 have hB1:Below w.heap.size w W1:=by
  rw [← hW1]
  exact ((Below.refl _ w).alloc (Nat.le_refl _) _).alloc (by simp) _
 have hS1:W1.heap.size=w.heap.size+2:=by rw [← hW1];simp
 have eg:∀ args w,(callFunc 156 args).run Tryz.prog w = .ok (.enter 156 args) w:=enters_of Tryz.func156 (by kernel_rfl) rfl
 refine ⟨w.heap.size+1,[{ target:=.collected w.heap.size,args:=#[] }],W1,{ target:=.fn (.func 156) #[.pointer (some ⟨b,0,none⟩),.pointer (some ⟨b+1,0,none⟩)],args:=#[.func (.yield (w.heap.size+1)) #[] #[]] },W1,156,
  #[.func (.yield (w.heap.size+1)) #[] #[],.pointer (some ⟨b,0,none⟩),.pointer (some ⟨b+1,0,none⟩)],W1,?_,?_,?_,?_,fun h => by simp [Fence.wide] at h,?_⟩
 ·rw [← hW1,hrec];exact run_enterLoop_outer _ _ _ _ _
 ·simp only [resolve,hg]
  simp [go_sem,iterA]
 ·intro f' _;trivial
 ·simp [invoke,go_sem,eg]
 ·refine (iterA_in (n - 1) (w.heap.size+1) b p o m nv mv l A
   (fun i W => I i W∧W.heap[w.heap.size+1]? = some (.loop (rec .ready))∧W.heap[w.heap.size]? = some (.deferred (some []))) (fun _ => False)
   (fun i W h => hIt i W h.1) (fun i W k h => ⟨hI i W _ h.1 (same2_drew _ W k),h.2.1,h.2.2⟩) ?_ W1 ⟨h0 W1 hB1 hS1,hL1,hK1⟩).mono ?_
  ·rintro i W hi him ⟨hi0,hl,hk⟩
   have hlt:w.heap.size+1 < W.heap.size:=(Array.getElem?_eq_some_iff.1 hl).1
   have hy:=run_yield (P:=Tryz.prog) (args:=#[.int .i64 (l[i].1:Nat),l[i].2]) hl (by rw [hrec];simpa using hps.symm)
   rw [hrec] at hy
   refine ⟨fn,_,assign,body,hy,roundIn_of_wpIn hfn (wpIn_mono (hround i hi W him hi0 (hsz i W hi0)) ?_)⟩
   rintro e a₁ W₁ he
   cases e with
   | normal =>
    obtain ⟨⟨e1,e2⟩,hbody⟩:=he
    have hl1:W₁.heap[w.heap.size+1]? = some (.loop (rec .ready)):=e2.trans hl
    have hk1:W₁.heap[w.heap.size]? = some (.deferred (some [])):=e1.trans hk
    have hlt1:w.heap.size+1 < W₁.heap.size:=(Array.getElem?_eq_some_iff.1 hl1).1
    refine ⟨_,run_beginRound hl1 (by rw [hrec]),wpIn_mono (hbody _ (same2_put _ W₁ _)) ?_⟩
    rintro e2 a₂ W₃ hp
    cases e2 with
    | normal =>
     obtain ⟨f1,f2,f3⟩:=hp
     have hl3:W₃.heap[w.heap.size+1]? = some (.loop { rec .ready with state:=.busy }):=f2.trans (World.putObj_heap_same hlt1)
     have hk3:W₃.heap[w.heap.size]? = some (.deferred (some [])):=(f1.trans (World.putObj_heap_other (by omega))).trans hk1
     refine ⟨_,_,run_endRound none hl3,.inl ⟨rfl,hI _ _ _ f3 (same2_put _ W₃ _),?_,?_⟩⟩
     ·rw [World.putObj_heap_same (Array.getElem?_eq_some_iff.1 hl3).1,hrec]
      rfl
     ·exact (World.putObj_heap_other (by omega)).trans hk3
    | ret => exact hp.elim
    | exit id => exact hp.elim
    | goto t => exact hp.elim
    | panic c => exact hp.elim
    | outgrown => exact hp.elim
   | ret => exact he.elim
   | exit id => exact he.elim
   | goto t => exact he.elim
   | panic c => exact he.elim
   | outgrown => exact he.elim
  ·rintro e W' ⟨⟨v,rfl⟩,⟨hi,hl,hk⟩ | h⟩
   ·have:=run_endLoop (P:=Tryz.prog) hl (by rw [hrec];simp)
    rw [hrec] at this
    exact ⟨none,_,this,hdone _ (hI _ _ _ hi (same2_put _ W' _)) ((World.putObj_heap_other (by omega)).trans hk)⟩
   ·exact h.elim
end Go.Proofs.YtamafdcnbcoegabGreat
namespace Go.Proofs.YtamafdcnbcoegabGreat
open Go.RowKit
def recU  : Value:=.agg #[]
def zeroU:Value:=.agg #[]
theorem zero_U (w:World):(zeroValue 207).run Tryz.prog w = .ok zeroU w:=Tryz.zeroValue207 w
def AreU (l:List (Nat × Value)):Prop:=∀ x ∈ l,x.2=recU 
theorem areU_look {l:List (Nat × Value)} (h:AreU l) (k:Int):(look l k=some (recU )) ∨ look l k=none:=by
 cases hv:look l k with
 | none => exact .inr rfl
 | some v =>
  obtain ⟨x,hx,_,rfl⟩:=look_mem hv
  have e:=h x hx
  exact .inl (by rw [e])
set_option maxHeartbeats 400000 in
theorem hasU_any {w:World} {p o:Nat} {arr:Array Value} {t:TypeId} {nv mv:Value} {l:List (Nat × Value)} (hb:w.heap[p]? = some (.cells arr t (0,0))) (h1:arr[o+1]? = some mv) (S:ShelfIs w nv mv l) (A:AreU l) (n:Int) :
  Calls Tryz.prog 157 #[.pointer (some ⟨p,o,none⟩),.int .i64 n] w fun e w' => e = .returned (.bool (look l n).isSome)∧Below w.heap.size w w':=by
 have c1:w.cell? ⟨p,o+1,none⟩=some mv:=(blk_cell hb).trans h1
 have hrun:=(run_lookup_i (P:=Tryz.prog) (w:=w) (t:=108) Tryz.underlying108 Tryz.underlying3 (zero_U w) S.map n).1
 clear S hb h1
 rcases areU_look A n with ⟨h⟩ | h
 all_goals
  rw [h] at hrun ⊢
  simp only [Option.getD_some,Option.getD_none,Option.isSome_some,Option.isSome_none,recU,zeroU] at hrun ⊢
  clear h A
  go_enter Tryz.func157,Tryz.ntmps157
  go_wp2
  go_ret
  refine ⟨rfl,?_⟩
  exact (Below.refl _ _).alloc (Nat.le_refl _) _
set_option maxRecDepth 100000 in
set_option maxHeartbeats 1000000 in
theorem putU_any {w:World} {p o:Nat} {t:TypeId} {arr:Array Value} {nv mv:Value} {l:List (Nat × Value)} (S:ShAt w p o t arr nv mv l) (hl:l.length < 1000) (n:Nat)  :
  Calls Tryz.prog 121 #[.pointer (some ⟨p,o,none⟩),.int .i64 n,recU ] w fun e w' => e = .returned (.tuple #[])∧ShStep w w' p o t arr nv mv (putL l n (recU )):=by
 obtain ⟨hbW,h0,h1,S,ht⟩:=S
 obtain ⟨mv0,hmv0⟩:∃ m,m=mv:=⟨_,rfl⟩
 rw [← hmv0]
 have hmv0:=hide hmv0
 have c0:w.cell? ⟨p,o,none⟩=some nv:=(blk_cell hbW).trans h0
 have c1:w.cell? ⟨p,o+1,none⟩=some mv:=(blk_cell hbW).trans h1
 unfold recU
 have hp:=lt_of_block hbW
 go_enter Tryz.func121,Tryz.ntmps121
 go_upto_region 1 with fail
 refine wp_world (fun x => x.heap[p]? = some (.cells arr t (0,0))∧x.heap[w.heap.size]? = some (.cells #[] 207 (0,0))∧ShelfIs x nv mv l∧Far (fun _ => False) w x∧w.heap.size < x.heap.size) ?_ ?_
 ·have hf:Far (fun _ => False) w (w.alloc (.cells #[] 207)):=far_below ((Below.refl _ _).alloc (Nat.le_refl _) _)
  exact ⟨hf.blk hbW id,heap_alloc_new w _,S.far hf (fun _ _ h => h),hf,by simp⟩
 clear c0 c1 S
 rintro x ⟨hb,hbox,S,hf,hz⟩
 have c0:x.cell? ⟨p,o,none⟩=some nv:=(blk_cell hb).trans h0
 have c1:x.cell? ⟨p,o+1,none⟩=some mv:=(blk_cell hb).trans h1
 have hfr:x.frozen? ⟨p,o+1,none⟩=false:=by simp [World.frozen?,hb]
 have hmm:=@run_makeMap Tryz.prog
 have eqN:∀ y:World,(binOp .eql 108 (.map none) (.map none)).run Tryz.prog y = .ok (.bool true) y:=fun y => by kernel_rfl
 have eqS:∀ (y:World) (m:Nat),(binOp .eql 108 (.map (some m)) (.map none)).run Tryz.prog y = .ok (.bool false) y:=fun y m => by kernel_rfl
 have pM:(x.alloc (.map #[] 0)).heap[p]? = some (.cells arr t (0,0)):=(Below.heap_alloc x _ p (lt_of_block hb)).trans hb
 have cM:(x.alloc (.map #[] 0)).cell? ⟨p,o+1,none⟩=some mv:=(blk_cell pM).trans h1
 have fM:(x.alloc (.map #[] 0)).frozen? ⟨p,o+1,none⟩=false:=by simp [World.frozen?,pM]
 rcases S.map with ⟨rfl,hm⟩ | ⟨mb,rfl,hm⟩
 all_goals
  go_upto_region 3 with fail
  refine wp_world (fun y => ∃ mb,y.heap[p]? = some (.cells (arr.setIfInBounds (o+1) (.map (some mb))) t (0,0))∧y.heap[w.heap.size]? = some (.cells #[] 207 (0,0))∧NumsAt y nv (l.map (·.1))∧MapAt y mb (look l) ∧
   Far (fun k => k=p) w y∧w.heap.size < y.heap.size∧(mapBlock mv0=some mb ∨ w.heap.size ≤ mb)) ?_ ?_
 ·refine ⟨x.heap.size,blk_set pM,(blk_set_ne (by omega)).trans ((Below.heap_alloc x _ _ hz).trans hbox),?_,?_,?_,?_,.inr (Nat.le_of_lt hz)⟩
  ·exact S.nums.keep (fun g hg => (blk_set_ne (fun e => S.ne hb ht (.inl (by rw [← e];exact hg)))).trans (Below.heap_alloc x _ g (World.ownsRow.lt S.nums g hg).2))
  ·rw [hm]
   exact (mapAt_new x).keep (blk_set_ne (by have:=lt_of_block hb;omega))
  ·exact ((hf.mono (fun _ _ h => h.elim)).trans (far_below ((Below.refl _ x).alloc (Nat.le_refl _) _)) (fun _ _ h => h)).trans (far_set _ p (o+1) _) (fun _ _ h => h)
  ·simp;omega
 rotate_left
 ·refine ⟨mb,by rw [set_same h1];exact hb,hbox,S.nums,hm,hf.mono (fun _ _ h => h.elim),hz,.inl (by rw [unhide hmv0];rfl)⟩
 all_goals
  have hs:=hide S.sorted
  clear c0 c1 pM cM fM hfr hbox S hm hb hz hmm eqN eqS hf hp
  rintro y ⟨mb',hb,hbox,N,M,hfY,hz,hloc⟩
  have h0s:o < arr.size:=(Array.getElem?_eq_some_iff.1 h0).1
  have h1s:o+1 < arr.size:=(Array.getElem?_eq_some_iff.1 h1).1
  have a0:(arr.setIfInBounds (o+1) (.map (some mb')))[o]? = some nv:=by rw [Array.getElem?_setIfInBounds_ne (by omega)];exact h0
  have a1:(arr.setIfInBounds (o+1) (.map (some mb')))[o+1]? = some (.map (some mb')):=by simp [h1s]
  have c0:y.cell? ⟨p,o,none⟩=some nv:=(blk_cell hb).trans a0
  have hk:=keys_putL (v:=recU ) (n:=n) (unhide hs)
  have hsr:=search_any N (unhide hs) (by simp;omega) n
  have hcl:(l.map (·.1)).countP (· < n) ≤ (l.map (·.1)).length:=List.countP_le_length
  have hnl:(l.map (·.1)).length < 1000:=by simpa using hl
  generalize (l.map (·.1)).countP (· < n)=k at hk hsr hcl
  generalize (l.map (·.1)).contains n=c at hk hsr
  generalize l.map (·.1)=ns at hk hsr hcl N hnl
  replace hk:=hide hk
  replace hsr:=hide hsr
  cases c
  ·go_upto_region 4 with (go_at_call 125;refine (unhide hsr).mono ?_;rintro e y1 ⟨rfl,q,rfl⟩)
   go_upto_region 6 with fail
   refine (insert_any (w:=(y.drewN q).alloc (.cells #[.int .i64 n] 3)) (ns:=ns) (N.keep (fun g hg => Below.heap_alloc (y.drewN q) _ g (World.ownsRow.lt N g hg).2)) (by omega) k n y.heap.size hcl (heap_alloc_new (y.drewN q) _) (fun e => by have:=(World.ownsRow.lt N _ e).2;omega)).mono ?_
   rintro e z ⟨nv',rfl,hN',hF',hL'⟩
   have hbz:=hF'.blk ((Below.heap_alloc (y.drewN q) _ p (lt_of_block hb)).trans hb) (fun e => (RowO.of_own N).ne hb (fun e => ht e.symm) e)
   have hxz:=hF'.blk ((Below.heap_alloc (y.drewN q) _ _ hz).trans hbox) (fun e => (RowO.of_own N).ne hbox (by decide) e)
   have cz:=(blk_cell hbz).trans a0
   have fz:z.frozen? ⟨p,o,none⟩=false:=by simp [World.frozen?,hbz]
   obtain ⟨ns',hns'⟩:∃ x,x=ns.take k ++ n :: ns.drop k:=⟨_,rfl⟩
   rw [← hns'] at hN'
   obtain ⟨g',cap',rfl⟩:=own_shape hN' (by rw [hns'];simp only [List.length_append,List.length_cons];omega)
   replace hns':=hide hns'
   go_upto_region 6 with fail
   refine wp_world (fun z => ∃ nv',z.heap[p]? = some (.cells ((arr.setIfInBounds o nv').setIfInBounds (o+1) (.map (some mb'))) t (0,0))∧z.heap[w.heap.size]? = some (.cells #[] 207 (0,0))∧NumsAt z nv' ((putL l n (recU )).map (·.1))∧MapAt z mb' (look l) ∧
    Far (fun k => k=p ∨ nv.ownBlock=some k) w z∧Loc w nv nv') ?_ ?_
   ·have hne:nv.ownBlock ≠ some mb':=N.notMap M
    have hpn:∀ g,(Value.slice (some ⟨g',0,none⟩) ns'.length cap').ownBlock=some g→g ≠ p:=fun g hg e => (RowO.of_own hN').ne hbz (fun e => ht e.symm) (by rw [hg,e])
    have hk':=unhide hk
    simp only [Bool.false_eq_true,if_false] at hk'
    have hfal:Far (fun _ => False) y ((y.drewN q).alloc (.cells #[.int .i64 n] 3)):=(far_drewN (fun _ => False) y q).trans (far_below ((Below.refl _ _).alloc (Nat.le_refl _) _)) (fun _ _ h => h)
    have hfz:Far (fun b => b=p ∨ nv.ownBlock=some b) w z:=(hfY.mono (fun _ _ h => .inl h)).trans ((hfal.mono (fun _ _ h => h.elim)).trans hF' (fun _ _ h => h)) (fun _ _ h => .inr h)
    refine ⟨_,?_,(blk_set_ne (by have:=lt_of_block hbW;omega)).trans hxz,?_,?_,hfz.trans (far_set z p o _) (fun _ _ h => .inl h),loc_less hL' (by simp;omega)⟩
    ·rw [set_comm _ _ (show o ≠ o+1 by omega)]
     exact blk_set hbz
    ·rw [hk',← unhide hns']
     exact hN'.keep (fun g hg => blk_set_ne (hpn g hg))
    ·exact M.keep ((blk_set_ne (fun e => M.not_cells (by rw [e];exact hb))).trans ((hF'.rest _ (by have:=M.lt;simp;omega) hne).trans (hfal.rest _ M.lt id)))
   ·skip
    rintro z ⟨nv',hb,hbox,N',M,hf,hl'⟩
    obtain ⟨ob,hU,hM⟩:=run_update_i (P:=Tryz.prog) (w:=z) (t:=108) Tryz.underlying108 Tryz.underlying3 M n (recU )
    have hU':=hU z.drew rfl
    unfold recU at hU'
    have c1:z.cell? ⟨p,o+1,none⟩=some (.map (some mb')):=(blk_cell hb).trans (by simp [h1s])
    go_region
    refine bodyPost_end (results_none rfl _ _ _) rfl ⟨rfl,?_⟩
    exact put_end (v:=recU ) (W:={ z.drew with heap:=z.drew.heap.setIfInBounds mb' ob }) h0s h1s hb ht N' M hf hl' hloc hM ((far_drewN _ z 1).trans (far_block mb' ob) (fun _ _ h => h)) (unhide hs) hl
  ·go_upto_region 4 with (go_at_call 125;refine (unhide hsr).mono ?_;rintro e y1 ⟨rfl,q,rfl⟩)
   go_upto_region 6 with fail
   refine wp_world (fun z => ∃ nv',z.heap[p]? = some (.cells ((arr.setIfInBounds o nv').setIfInBounds (o+1) (.map (some mb'))) t (0,0))∧z.heap[w.heap.size]? = some (.cells #[] 207 (0,0))∧NumsAt z nv' ((putL l n (recU )).map (·.1))∧MapAt z mb' (look l) ∧
    Far (fun k => k=p ∨ nv.ownBlock=some k) w z∧Loc w nv nv') ?_ ?_
   ·have hk':=unhide hk
    simp only [if_true] at hk'
    refine ⟨nv,?_,hbox,by rw [hk'];exact N,M,(hfY.mono (fun _ _ h => .inl h)).trans (far_drewN _ y q) (fun _ _ h => h),.inr (.inl rfl)⟩
    rw [set_same h0]
    exact hb
   ·skip
    rintro z ⟨nv',hb,hbox,N',M,hf,hl'⟩
    obtain ⟨ob,hU,hM⟩:=run_update_i (P:=Tryz.prog) (w:=z) (t:=108) Tryz.underlying108 Tryz.underlying3 M n (recU )
    have hU':=hU z.drew rfl
    unfold recU at hU'
    have c1:z.cell? ⟨p,o+1,none⟩=some (.map (some mb')):=(blk_cell hb).trans (by simp [h1s])
    go_region
    refine bodyPost_end (results_none rfl _ _ _) rfl ⟨rfl,?_⟩
    exact put_end (v:=recU ) (W:={ z.drew with heap:=z.drew.heap.setIfInBounds mb' ob }) h0s h1s hb ht N' M hf hl' hloc hM ((far_drewN _ z 1).trans (far_block mb' ob) (fun _ _ h => h)) (unhide hs) hl
end Go.Proofs.YtamafdcnbcoegabGreat
namespace Go.Proofs.YtamafdcnbcoegabGreat
open Go.RowKit
set_option maxRecDepth 100000 in
set_option maxHeartbeats 1000000 in
theorem clearU_any {w:World} {p o:Nat} {t:TypeId} {arr:Array Value} {nv mv:Value} {l:List (Nat × Value)} (S:ShAt w p o t arr nv mv l) :
  Calls Tryz.prog 119 #[.pointer (some ⟨p,o,none⟩)] w fun e w' => e = .returned (.tuple #[])∧ShStep w w' p o t arr nv mv []:=by
 obtain ⟨hbW,h0,h1,S,ht⟩:=S
 have h0s:o < arr.size:=(Array.getElem?_eq_some_iff.1 h0).1
 have h1s:o+1 < arr.size:=(Array.getElem?_eq_some_iff.1 h1).1
 obtain ⟨mv0,hmv0⟩:∃ m,m=mv:=⟨_,rfl⟩
 rw [← hmv0]
 replace hmv0:=hide hmv0
 have c1:w.cell? ⟨p,o+1,none⟩=some mv:=(blk_cell hbW).trans h1
 have e0:=S.nums.cases
 have hm:(mv = .map none∧∀ ty,(Builtin.clear_ #[108] ty #[.map none]).run Tryz.prog w = .ok (.tuple #[]) w) ∨
   ∃ b o,mv = .map (some b)∧b ≠ p∧nv.ownBlock ≠ some b∧(∀ ty,(Builtin.clear_ #[108] ty #[.map (some b)]).run Tryz.prog w = .ok (.tuple #[]) { w with heap:=w.heap.setIfInBounds b o })∧MapAt { w with heap:=w.heap.setIfInBounds b o } b (fun _ => none):=by
  rcases S.map with ⟨rfl,hm⟩ | ⟨mb,rfl,hm⟩
  ·exact .inl ⟨rfl,fun ty => run_clear_n Tryz.underlying108⟩
  ·obtain ⟨ob,hU,hM⟩:=run_clear_m (P:=Tryz.prog) (w:=w) (t:=108) Tryz.underlying108 hm
   exact .inr ⟨mb,ob,rfl,fun e => hm.not_cells (by rw [e];exact hbW),S.nums.notMap hm,fun ty => hU ty w rfl,hM⟩
 rcases hm with ⟨rfl,hrun⟩ | ⟨mb,ob,rfl,hmp,hmn,hrun,hM⟩
 all_goals
  go_enter Tryz.func119,Tryz.ntmps119
  go_upto_region 1 with fail
  refine wp_world (fun x => x.heap[p]? = some (.cells arr t (0,0))∧NumsAt x nv (l.map (·.1))∧MapV x mv0 (look [])∧Far (fun k => k=p ∨ ShU nv mv0 k) w x) ?_ ?_
 ·exact ⟨hbW,S.nums,by rw [unhide hmv0];exact .inl ⟨rfl,look_nil⟩,Far.refl _ _⟩
 rotate_left
 ·have hf:=far_block (w:=w) mb ob
  refine ⟨hf.blk hbW (fun e => hmp e.symm),S.nums.keep (fun g hg => hf.rest g (World.ownsRow.lt S.nums g hg).2 (fun e => hmn (by rw [hg,e]))),by rw [unhide hmv0];exact .inr ⟨mb,rfl,by rw [look_nil];exact hM⟩,hf.mono (fun k _ e => .inr (.inr (by rw [unhide hmv0,e];rfl)))⟩
 all_goals
  clear S
  rintro x ⟨hb,N,M,hf⟩
  have c0:x.cell? ⟨p,o,none⟩=some nv:=(blk_cell hb).trans h0
  have f0:x.frozen? ⟨p,o,none⟩=false:=by simp [World.frozen?,hb]
  rcases e0 with ⟨rfl,_⟩ | ⟨g,cap,cur,rfl,hh,hn,hc,hz,htk⟩
  ·go_wp2
   refine bodyPost_end (results_none rfl _ _ _) rfl ⟨rfl,?_⟩
   refine ⟨⟨_,mv0,⟨?_,?_,?_,⟨numsAt_nil _,M.keep (fun b hb' => blk_set_ne (fun e => ?_)),by simp,by simp⟩,ht⟩,.inr (.inl rfl),.inl rfl⟩,hf.trans (far_set x p o _) (fun _ _ h => .inl h)⟩
   ·have:=blk_set (j:=o) (v:=.slice none 0 0) hb
    rw [set_same (i:=o+1)]
    ·exact this
    ·rw [Array.getElem?_setIfInBounds_ne (by omega),h1,unhide hmv0]
   ·rw [Array.getElem?_setIfInBounds_ne (by omega)];simp [h0s]
   ·simp [h1s]
   ·rcases M with ⟨h,_⟩ | ⟨b',h,hM'⟩
    ·rw [h] at hb';cases hb'
    ·rw [h] at hb';cases hb';exact hM'.not_cells (by rw [e];exact hb)
  ·go_wp2
   refine bodyPost_end (results_none rfl _ _ _) rfl ⟨rfl,?_⟩
   rcases N.cases with ⟨h,_⟩ | ⟨g',cap',cur',h,hh',hn',hc',hz',htk'⟩
   ·cases h
   ·injection h with h _ h3
    injection h with h
    injection h with h
    subst h h3
    have hgp:g ≠ p:=fun e => by
     subst e
     rw [hh'] at hb
     injection hb with hb
     injection hb with _ hb _
     exact ht hb.symm
    refine ⟨⟨_,mv0,⟨?_,?_,?_,⟨numsAt_mk (ns:=[]) ((blk_set_ne hgp).trans hh') (Nat.zero_le _) hc hz' rfl,M.keep (fun b hb' => blk_set_ne (fun e => ?_)),by simp,by simp⟩,ht⟩,.inr (.inl rfl),.inl rfl⟩,hf.trans (far_set x p o _) (fun _ _ h => .inl h)⟩
    ·rw [set_same (i:=o+1)]
     ·exact blk_set (j:=o) hb
     ·rw [Array.getElem?_setIfInBounds_ne (by omega),h1,unhide hmv0]
    ·rw [Array.getElem?_setIfInBounds_ne (by omega)];simp [h0s]
    ·simp [h1s]
    ·rcases M with ⟨h,_⟩ | ⟨b',h,hM'⟩
     ·rw [h] at hb';cases hb'
     ·rw [h] at hb';cases hb';exact hM'.not_cells (by rw [e];exact hb)
end Go.Proofs.YtamafdcnbcoegabGreat
namespace Go.Proofs.YtamafdcnbcoegabGreat
open Go.RowKit
def recI (m:Nat):Value:=.int .i64 m
def zeroI:Value:=.int .i64 0
theorem zero_I (w:World):(zeroValue 3).run Tryz.prog w = .ok zeroI w:=Tryz.zeroValue3 w
def AreI (l:List (Nat × Value)):Prop:=∀ x ∈ l,∃ m,x.2=recI m
theorem areI_look {l:List (Nat × Value)} (h:AreI l) (k:Int):(∃ m,look l k=some (recI m)) ∨ look l k=none:=by
 cases hv:look l k with
 | none => exact .inr rfl
 | some v =>
  obtain ⟨x,hx,_,rfl⟩:=look_mem hv
  obtain ⟨m,e⟩:=h x hx
  exact .inl ⟨m,by rw [e]⟩
set_option maxRecDepth 100000 in
set_option maxHeartbeats 1000000 in
theorem putI_any {w:World} {p o:Nat} {t:TypeId} {arr:Array Value} {nv mv:Value} {l:List (Nat × Value)} (S:ShAt w p o t arr nv mv l) (hl:l.length < 1000) (n:Nat) (m:Nat) :
  Calls Tryz.prog 107 #[.pointer (some ⟨p,o,none⟩),.int .i64 n,recI m] w fun e w' => e = .returned (.tuple #[])∧ShStep w w' p o t arr nv mv (putL l n (recI m)):=by
 obtain ⟨hbW,h0,h1,S,ht⟩:=S
 obtain ⟨mv0,hmv0⟩:∃ m,m=mv:=⟨_,rfl⟩
 rw [← hmv0]
 have hmv0:=hide hmv0
 have c0:w.cell? ⟨p,o,none⟩=some nv:=(blk_cell hbW).trans h0
 have c1:w.cell? ⟨p,o+1,none⟩=some mv:=(blk_cell hbW).trans h1
 unfold recI
 have hp:=lt_of_block hbW
 go_enter Tryz.func107,Tryz.ntmps107
 refine wp_world (fun x => x.heap[p]? = some (.cells arr t (0,0))∧ShelfIs x nv mv l∧Far (fun _ => False) w x∧w.heap.size ≤ x.heap.size) ?_ ?_
 ·exact ⟨hbW,S,Far.refl _ w,Nat.le_refl _⟩
 clear c0 c1 S
 rintro x ⟨hb,S,hf,hz⟩
 have c0:x.cell? ⟨p,o,none⟩=some nv:=(blk_cell hb).trans h0
 have c1:x.cell? ⟨p,o+1,none⟩=some mv:=(blk_cell hb).trans h1
 have hfr:x.frozen? ⟨p,o+1,none⟩=false:=by simp [World.frozen?,hb]
 have hmm:=@run_makeMap Tryz.prog
 have eqN:∀ y:World,(binOp .eql 105 (.map none) (.map none)).run Tryz.prog y = .ok (.bool true) y:=fun y => by kernel_rfl
 have eqS:∀ (y:World) (m:Nat),(binOp .eql 105 (.map (some m)) (.map none)).run Tryz.prog y = .ok (.bool false) y:=fun y m => by kernel_rfl
 have pM:(x.alloc (.map #[] 0)).heap[p]? = some (.cells arr t (0,0)):=(Below.heap_alloc x _ p (lt_of_block hb)).trans hb
 have cM:(x.alloc (.map #[] 0)).cell? ⟨p,o+1,none⟩=some mv:=(blk_cell pM).trans h1
 have fM:(x.alloc (.map #[] 0)).frozen? ⟨p,o+1,none⟩=false:=by simp [World.frozen?,pM]
 rcases S.map with ⟨rfl,hm⟩ | ⟨mb,rfl,hm⟩
 all_goals
  go_upto_region 2 with fail
  refine wp_world (fun y => ∃ mb,y.heap[p]? = some (.cells (arr.setIfInBounds (o+1) (.map (some mb))) t (0,0))∧NumsAt y nv (l.map (·.1))∧MapAt y mb (look l) ∧
   Far (fun k => k=p) w y∧w.heap.size ≤ y.heap.size∧(mapBlock mv0=some mb ∨ w.heap.size ≤ mb)) ?_ ?_
 ·refine ⟨x.heap.size,blk_set pM,?_,?_,?_,?_,.inr hz⟩
  ·exact S.nums.keep (fun g hg => (blk_set_ne (fun e => S.ne hb ht (.inl (by rw [← e];exact hg)))).trans (Below.heap_alloc x _ g (World.ownsRow.lt S.nums g hg).2))
  ·rw [hm]
   exact (mapAt_new x).keep (blk_set_ne (by have:=lt_of_block hb;omega))
  ·exact ((hf.mono (fun _ _ h => h.elim)).trans (far_below ((Below.refl _ x).alloc (Nat.le_refl _) _)) (fun _ _ h => h)).trans (far_set _ p (o+1) _) (fun _ _ h => h)
  ·simp;omega
 rotate_left
 ·refine ⟨mb,by rw [set_same h1];exact hb,S.nums,hm,hf.mono (fun _ _ h => h.elim),hz,.inl (by rw [unhide hmv0];rfl)⟩
 all_goals
  have hs:=hide S.sorted
  clear c0 c1 pM cM fM hfr S hm hb hz hmm eqN eqS hf hp
  rintro y ⟨mb',hb,N,M,hfY,hz,hloc⟩
  have h0s:o < arr.size:=(Array.getElem?_eq_some_iff.1 h0).1
  have h1s:o+1 < arr.size:=(Array.getElem?_eq_some_iff.1 h1).1
  have a0:(arr.setIfInBounds (o+1) (.map (some mb')))[o]? = some nv:=by rw [Array.getElem?_setIfInBounds_ne (by omega)];exact h0
  have a1:(arr.setIfInBounds (o+1) (.map (some mb')))[o+1]? = some (.map (some mb')):=by simp [h1s]
  have c0:y.cell? ⟨p,o,none⟩=some nv:=(blk_cell hb).trans a0
  have hk:=keys_putL (v:=recI m) (n:=n) (unhide hs)
  have hsr:=search_any N (unhide hs) (by simp;omega) n
  have hcl:(l.map (·.1)).countP (· < n) ≤ (l.map (·.1)).length:=List.countP_le_length
  have hnl:(l.map (·.1)).length < 1000:=by simpa using hl
  generalize (l.map (·.1)).countP (· < n)=k at hk hsr hcl
  generalize (l.map (·.1)).contains n=c at hk hsr
  generalize l.map (·.1)=ns at hk hsr hcl N hnl
  replace hk:=hide hk
  replace hsr:=hide hsr
  cases c
  ·go_upto_region 3 with (go_at_call 125;refine (unhide hsr).mono ?_;rintro e y1 ⟨rfl,q,rfl⟩)
   go_upto_region 5 with fail
   refine (insert_any (w:=(y.drewN q).alloc (.cells #[.int .i64 n] 3)) (ns:=ns) (N.keep (fun g hg => Below.heap_alloc (y.drewN q) _ g (World.ownsRow.lt N g hg).2)) (by omega) k n y.heap.size hcl (heap_alloc_new (y.drewN q) _) (fun e => by have:=(World.ownsRow.lt N _ e).2;omega)).mono ?_
   rintro e z ⟨nv',rfl,hN',hF',hL'⟩
   have hbz:=hF'.blk ((Below.heap_alloc (y.drewN q) _ p (lt_of_block hb)).trans hb) (fun e => (RowO.of_own N).ne hb (fun e => ht e.symm) e)
   have cz:=(blk_cell hbz).trans a0
   have fz:z.frozen? ⟨p,o,none⟩=false:=by simp [World.frozen?,hbz]
   obtain ⟨ns',hns'⟩:∃ x,x=ns.take k ++ n :: ns.drop k:=⟨_,rfl⟩
   rw [← hns'] at hN'
   obtain ⟨g',cap',rfl⟩:=own_shape hN' (by rw [hns'];simp only [List.length_append,List.length_cons];omega)
   replace hns':=hide hns'
   go_upto_region 5 with fail
   refine wp_world (fun z => ∃ nv',z.heap[p]? = some (.cells ((arr.setIfInBounds o nv').setIfInBounds (o+1) (.map (some mb'))) t (0,0))∧NumsAt z nv' ((putL l n (recI m)).map (·.1))∧MapAt z mb' (look l) ∧
    Far (fun k => k=p ∨ nv.ownBlock=some k) w z∧Loc w nv nv') ?_ ?_
   ·have hne:nv.ownBlock ≠ some mb':=N.notMap M
    have hpn:∀ g,(Value.slice (some ⟨g',0,none⟩) ns'.length cap').ownBlock=some g→g ≠ p:=fun g hg e => (RowO.of_own hN').ne hbz (fun e => ht e.symm) (by rw [hg,e])
    have hk':=unhide hk
    simp only [Bool.false_eq_true,if_false] at hk'
    have hfal:Far (fun _ => False) y ((y.drewN q).alloc (.cells #[.int .i64 n] 3)):=(far_drewN (fun _ => False) y q).trans (far_below ((Below.refl _ _).alloc (Nat.le_refl _) _)) (fun _ _ h => h)
    have hfz:Far (fun b => b=p ∨ nv.ownBlock=some b) w z:=(hfY.mono (fun _ _ h => .inl h)).trans ((hfal.mono (fun _ _ h => h.elim)).trans hF' (fun _ _ h => h)) (fun _ _ h => .inr h)
    refine ⟨_,?_,?_,?_,hfz.trans (far_set z p o _) (fun _ _ h => .inl h),loc_less hL' (by simp;omega)⟩
    ·rw [set_comm _ _ (show o ≠ o+1 by omega)]
     exact blk_set hbz
    ·rw [hk',← unhide hns']
     exact hN'.keep (fun g hg => blk_set_ne (hpn g hg))
    ·exact M.keep ((blk_set_ne (fun e => M.not_cells (by rw [e];exact hb))).trans ((hF'.rest _ (by have:=M.lt;simp;omega) hne).trans (hfal.rest _ M.lt id)))
   ·skip
    rintro z ⟨nv',hb,N',M,hf,hl'⟩
    obtain ⟨ob,hU,hM⟩:=run_update_i (P:=Tryz.prog) (w:=z) (t:=105) Tryz.underlying105 Tryz.underlying3 M n (recI m)
    have hU':=hU z rfl
    unfold recI at hU'
    have c1:z.cell? ⟨p,o+1,none⟩=some (.map (some mb')):=(blk_cell hb).trans (by simp [h1s])
    go_wp2
    refine bodyPost_end (results_none rfl _ _ _) rfl ⟨rfl,?_⟩
    exact put_end (v:=recI m) (W:={ z with heap:=z.heap.setIfInBounds mb' ob }) h0s h1s hb ht N' M hf hl' hloc hM (far_block mb' ob) (unhide hs) hl
  ·go_upto_region 3 with (go_at_call 125;refine (unhide hsr).mono ?_;rintro e y1 ⟨rfl,q,rfl⟩)
   go_upto_region 5 with fail
   refine wp_world (fun z => ∃ nv',z.heap[p]? = some (.cells ((arr.setIfInBounds o nv').setIfInBounds (o+1) (.map (some mb'))) t (0,0))∧NumsAt z nv' ((putL l n (recI m)).map (·.1))∧MapAt z mb' (look l) ∧
    Far (fun k => k=p ∨ nv.ownBlock=some k) w z∧Loc w nv nv') ?_ ?_
   ·have hk':=unhide hk
    simp only [if_true] at hk'
    refine ⟨nv,?_,by rw [hk'];exact N,M,(hfY.mono (fun _ _ h => .inl h)).trans (far_drewN _ y q) (fun _ _ h => h),.inr (.inl rfl)⟩
    rw [set_same h0]
    exact hb
   ·skip
    rintro z ⟨nv',hb,N',M,hf,hl'⟩
    obtain ⟨ob,hU,hM⟩:=run_update_i (P:=Tryz.prog) (w:=z) (t:=105) Tryz.underlying105 Tryz.underlying3 M n (recI m)
    have hU':=hU z rfl
    unfold recI at hU'
    have c1:z.cell? ⟨p,o+1,none⟩=some (.map (some mb')):=(blk_cell hb).trans (by simp [h1s])
    go_wp2
    refine bodyPost_end (results_none rfl _ _ _) rfl ⟨rfl,?_⟩
    exact put_end (v:=recI m) (W:={ z with heap:=z.heap.setIfInBounds mb' ob }) h0s h1s hb ht N' M hf hl' hloc hM (far_block mb' ob) (unhide hs) hl
end Go.Proofs.YtamafdcnbcoegabGreat
namespace Go.Proofs.YtamafdcnbcoegabGreat
open Go.RowKit
set_option maxRecDepth 100000 in
set_option maxHeartbeats 1000000 in
theorem clearI_any {w:World} {p o:Nat} {t:TypeId} {arr:Array Value} {nv mv:Value} {l:List (Nat × Value)} (S:ShAt w p o t arr nv mv l) :
  Calls Tryz.prog 118 #[.pointer (some ⟨p,o,none⟩)] w fun e w' => e = .returned (.tuple #[])∧ShStep w w' p o t arr nv mv []:=by
 obtain ⟨hbW,h0,h1,S,ht⟩:=S
 have h0s:o < arr.size:=(Array.getElem?_eq_some_iff.1 h0).1
 have h1s:o+1 < arr.size:=(Array.getElem?_eq_some_iff.1 h1).1
 obtain ⟨mv0,hmv0⟩:∃ m,m=mv:=⟨_,rfl⟩
 rw [← hmv0]
 replace hmv0:=hide hmv0
 have c1:w.cell? ⟨p,o+1,none⟩=some mv:=(blk_cell hbW).trans h1
 have e0:=S.nums.cases
 have hm:(mv = .map none∧∀ ty,(Builtin.clear_ #[105] ty #[.map none]).run Tryz.prog w = .ok (.tuple #[]) w) ∨
   ∃ b o,mv = .map (some b)∧b ≠ p∧nv.ownBlock ≠ some b∧(∀ ty,(Builtin.clear_ #[105] ty #[.map (some b)]).run Tryz.prog w = .ok (.tuple #[]) { w with heap:=w.heap.setIfInBounds b o })∧MapAt { w with heap:=w.heap.setIfInBounds b o } b (fun _ => none):=by
  rcases S.map with ⟨rfl,hm⟩ | ⟨mb,rfl,hm⟩
  ·exact .inl ⟨rfl,fun ty => run_clear_n Tryz.underlying105⟩
  ·obtain ⟨ob,hU,hM⟩:=run_clear_m (P:=Tryz.prog) (w:=w) (t:=105) Tryz.underlying105 hm
   exact .inr ⟨mb,ob,rfl,fun e => hm.not_cells (by rw [e];exact hbW),S.nums.notMap hm,fun ty => hU ty w rfl,hM⟩
 rcases hm with ⟨rfl,hrun⟩ | ⟨mb,ob,rfl,hmp,hmn,hrun,hM⟩
 all_goals
  go_enter Tryz.func118,Tryz.ntmps118
  go_upto_region 1 with fail
  refine wp_world (fun x => x.heap[p]? = some (.cells arr t (0,0))∧NumsAt x nv (l.map (·.1))∧MapV x mv0 (look [])∧Far (fun k => k=p ∨ ShU nv mv0 k) w x) ?_ ?_
 ·exact ⟨hbW,S.nums,by rw [unhide hmv0];exact .inl ⟨rfl,look_nil⟩,Far.refl _ _⟩
 rotate_left
 ·have hf:=far_block (w:=w) mb ob
  refine ⟨hf.blk hbW (fun e => hmp e.symm),S.nums.keep (fun g hg => hf.rest g (World.ownsRow.lt S.nums g hg).2 (fun e => hmn (by rw [hg,e]))),by rw [unhide hmv0];exact .inr ⟨mb,rfl,by rw [look_nil];exact hM⟩,hf.mono (fun k _ e => .inr (.inr (by rw [unhide hmv0,e];rfl)))⟩
 all_goals
  clear S
  rintro x ⟨hb,N,M,hf⟩
  have c0:x.cell? ⟨p,o,none⟩=some nv:=(blk_cell hb).trans h0
  have f0:x.frozen? ⟨p,o,none⟩=false:=by simp [World.frozen?,hb]
  rcases e0 with ⟨rfl,_⟩ | ⟨g,cap,cur,rfl,hh,hn,hc,hz,htk⟩
  ·go_wp2
   refine bodyPost_end (results_none rfl _ _ _) rfl ⟨rfl,?_⟩
   refine ⟨⟨_,mv0,⟨?_,?_,?_,⟨numsAt_nil _,M.keep (fun b hb' => blk_set_ne (fun e => ?_)),by simp,by simp⟩,ht⟩,.inr (.inl rfl),.inl rfl⟩,hf.trans (far_set x p o _) (fun _ _ h => .inl h)⟩
   ·have:=blk_set (j:=o) (v:=.slice none 0 0) hb
    rw [set_same (i:=o+1)]
    ·exact this
    ·rw [Array.getElem?_setIfInBounds_ne (by omega),h1,unhide hmv0]
   ·rw [Array.getElem?_setIfInBounds_ne (by omega)];simp [h0s]
   ·simp [h1s]
   ·rcases M with ⟨h,_⟩ | ⟨b',h,hM'⟩
    ·rw [h] at hb';cases hb'
    ·rw [h] at hb';cases hb';exact hM'.not_cells (by rw [e];exact hb)
  ·go_wp2
   refine bodyPost_end (results_none rfl _ _ _) rfl ⟨rfl,?_⟩
   rcases N.cases with ⟨h,_⟩ | ⟨g',cap',cur',h,hh',hn',hc',hz',htk'⟩
   ·cases h
   ·injection h with h _ h3
    injection h with h
    injection h with h
    subst h h3
    have hgp:g ≠ p:=fun e => by
     subst e
     rw [hh'] at hb
     injection hb with hb
     injection hb with _ hb _
     exact ht hb.symm
    refine ⟨⟨_,mv0,⟨?_,?_,?_,⟨numsAt_mk (ns:=[]) ((blk_set_ne hgp).trans hh') (Nat.zero_le _) hc hz' rfl,M.keep (fun b hb' => blk_set_ne (fun e => ?_)),by simp,by simp⟩,ht⟩,.inr (.inl rfl),.inl rfl⟩,hf.trans (far_set x p o _) (fun _ _ h => .inl h)⟩
    ·rw [set_same (i:=o+1)]
     ·exact blk_set (j:=o) hb
     ·rw [Array.getElem?_setIfInBounds_ne (by omega),h1,unhide hmv0]
    ·rw [Array.getElem?_setIfInBounds_ne (by omega)];simp [h0s]
    ·simp [h1s]
    ·rcases M with ⟨h,_⟩ | ⟨b',h,hM'⟩
     ·rw [h] at hb';cases hb'
     ·rw [h] at hb';cases hb';exact hM'.not_cells (by rw [e];exact hb)
set_option maxHeartbeats 400000 in
theorem getI_any {w:World} {p o:Nat} {arr:Array Value} {t:TypeId} {nv mv:Value} {l:List (Nat × Value)} (hb:w.heap[p]? = some (.cells arr t (0,0))) (h1:arr[o+1]? = some mv) (S:ShelfIs w nv mv l) (A:AreI l) (n:Int) :
  Calls Tryz.prog 158 #[.pointer (some ⟨p,o,none⟩),.int .i64 n] w fun e w' => e = .returned (.tuple #[(look l n).getD zeroI,.bool (look l n).isSome])∧w' = w:=by
 have c1:w.cell? ⟨p,o+1,none⟩=some mv:=(blk_cell hb).trans h1
 have hrun:=(run_lookup_i (P:=Tryz.prog) (w:=w) (t:=105) Tryz.underlying105 Tryz.underlying3 (zero_I w) S.map n).1
 clear S hb h1
 rcases areI_look A n with ⟨m,h⟩ | h
 all_goals
  rw [h] at hrun ⊢
  simp only [Option.getD_some,Option.getD_none,Option.isSome_some,Option.isSome_none,recI,zeroI] at hrun ⊢
  clear h A
  go_enter Tryz.func158,Tryz.ntmps158
  go_wp2
  go_ret2
  exact ⟨rfl,rfl⟩
end Go.Proofs.YtamafdcnbcoegabGreat
