/-
  Part 16 of a proof: L29, L30, L32, L33, AN2, U5, N1, N2, N3, N4, AN3, AN4, N5, V6, N8A, P1.
-/
import Derived.Deep.CutRange
import Derived.Test.YtamafdcnbcoegabGreatAn15
namespace Go.Proofs.YtamafdcnbcoegabGreat
open Go.RowKit
theorem agLd_new {w:World} {p s:Nat} {g:Nat→Nat} {arr:Array Value} (hb:w.heap[p]? = some (.cells arr 116 (0,0))) (ha:arr=(((newAg s (.slice none 0 0) (.slice none 0 0)).setIfInBounds 1 (.int .i64 (g 0))).setIfInBounds 2 (.int .i64 (g 1))).setIfInBounds 3 (.int .i64 (g 2))):AgLd w w p s g Mod.ld0:=by
 have hsz:arr.size=27:=by rw [ha];rfl
 have hz:∀ k,shOf Mod.ld0 k = []:=fun k => by
  unfold shOf Mod.ld0
  split <;> rfl
 have hg:∀ j,j ≠ 1→j ≠ 2→j ≠ 3→arr[j]? = (newAg s (.slice none 0 0) (.slice none 0 0))[j]?:=fun j h1 h2 h3 => by
  rw [ha,Array.getElem?_setIfInBounds_ne (fun e => h3 e.symm),Array.getElem?_setIfInBounds_ne (fun e => h2 e.symm),Array.getElem?_setIfInBounds_ne (fun e => h1 e.symm)]
 refine ⟨arr,fun _ => .slice none 0 0,fun _ => .map none,.slice none 0 0,⟨hb,hsz,?_,fun i hi => ?_,fun k hk => ?_,fun k hk => ?_,?_,?_,?_,?_,?_,rowO_nil _ _ _,fun k hk => by rw [hz];exact shelfIs_nil _,fun k hk j hj => ?_,fun j k _ _ _ b hb => ?_⟩,Far.refl _ _,?_⟩
 ·rw [hg _ (by omega) (by omega) (by omega)];rfl
 ·obtain rfl | rfl | rfl:i=0 ∨ i=1 ∨ i=2:=by omega
  all_goals
   rw [ha]
   rfl
 ·rw [hg _ (by omega) (by omega) (by omega)];exact ((newAg_get s _ _).2 k hk).1
 ·rw [hg _ (by omega) (by omega) (by omega)];exact ((newAg_get s _ _).2 k hk).2
 ·rw [hg _ (by omega) (by omega) (by omega)];rfl
 ·rw [hg _ (by omega) (by omega) (by omega)];rfl
 ·rw [hg _ (by omega) (by omega) (by omega)];rfl
 ·rw [hg _ (by omega) (by omega) (by omega)];rfl
 ·rw [hg _ (by omega) (by omega) (by omega)];rfl
 ·rcases hj with h | h <;> cases h
 ·rcases hb with h | h <;> cases h
 ·rintro k (h | h | ⟨i,_,h⟩)
  ·exact .inl h
  ·cases h
  ·rcases h with h | h <;> cases h
set_option maxRecDepth 100000 in
set_option maxHeartbeats 8000000 in
theorem agLoad_any {w:World} {p s g cap m:Nat} {G:Nat→Nat} {rs:List Mod.Rc} (hp:AgLd w w p s G Mod.ld0) (hrow:w.ownsRow 0 150 3 (.slice (some ⟨g,0,none⟩) m cap) m (rcRow rs)) (hml:rs.length=m) (hm:m ≤ 24)
  (hrs:∀ r ∈ rs,r=Mod.rc0 ∨ r.fits) (hG:∀ i,i < 3→G i ≤ 2147483647) :
  Calls Tryz.prog 75 #[ptrTo p,.slice (some ⟨g,0,none⟩) m cap] w fun r w' => r = .returned (.bool (Mod.ldRes G rs).isSome)∧Far (fun k => k=p) w w' ∧ ∀ l,Mod.ldRes G rs=some l→AgLd w w' p s G l:=by
 have hpb:∃ arr,w.heap[p]? = some (.cells arr 116 (0,0)):=by obtain ⟨arr,_,_,_,K,_⟩:=hp;exact ⟨arr,K.blk⟩
 obtain ⟨arr0,hpb⟩:=hpb
 have hgp:0 < m→g ≠ p:=fun _ e => by
  have:=(RowO.of_own hrow).ne hpb (by decide)
  exact this (by rw [e];rfl)
 have hc:∀ j r,rs[j]? = some r→w.cell? ⟨g,j * 3,none⟩=some (.int .i64 r.s)∧w.cell? ⟨g,j * 3+1,none⟩=some (.int .i64 r.q)∧w.cell? ⟨g,j * 3+2,none⟩=some (.string r.b):=by
  intro j r hj
  have hjm:=(List.getElem?_eq_some_iff.1 hj).1
  obtain ⟨ad,cap',e,_,_,hcl⟩:=(RowO.of_own hrow).shape
  obtain ⟨g',o',e2,hcl⟩:=hcl (by omega)
  rw [e2] at e
  injection e with e
  injection e with e
  injection e with e e'
  subst e e'
  have hlen:=length_rcRow rs
  have:=rcRow_get rs j r hj
  refine ⟨?_,?_,?_⟩
  ·have h:=hcl (j * 3) (by omega);rw [Nat.zero_add] at h;rw [h];exact this.1
  ·have h:=hcl (j * 3+1) (by omega);rw [Nat.zero_add] at h;rw [h];exact this.2.1
  ·have h:=hcl (j * 3+2) (by omega);rw [Nat.zero_add] at h;rw [h];exact this.2.2
 have HC:=hide hc
 have HGP:=hide hgp
 have hpl:=lt_of_block hpb
 have HP:=hide hp
 have HRS:=hide hrs
 have HML:=hide hml
 have HGM:=hide hG
 clear hrow hc hgp hp hrs hml hG hpb
 unfold ptrTo
 go_enter Tryz.func75,Tryz.ntmps75
 go_wp2
 go_loopw [5,6,7,12] (fun _ _ _ i wr => ∃ j:Nat,j ≤ m∧i = .int .i64 j∧∃ l,Mod.ldAll G (rs.take j) 0 Mod.ld0=some l∧AgLd w wr p s G l) (fun _ _ _ i _ => m - (intOf i).toNat)
 case atStart => exact ⟨0,by omega,rfl,_,rfl,unhide HP⟩
 case round =>
  obtain ⟨j,hj,rfl,l,hsk,hL⟩:=hrel
  clear HP
  by_cases hlt:j < m
  ·obtain ⟨r,hr⟩:∃ r,rs[j]? = some r:=⟨_,List.getElem?_eq_getElem (by have:=unhide HML;omega)⟩
   obtain ⟨e0,e1,e2⟩:=(unhide HC) j r hr
   have hst:=Mod.ldAll_step hr hsk
   have hll:=Mod.ldAll_len _ _ _ _ hsk
   have hrf:=(unhide HRS) r (List.mem_of_getElem? hr)
   have hs3:r.s < 3:=by
    rcases hrf with h | h
    ·rw [h];show 0 < 3;omega
    ·exact h.1
   have hgl:g < w.heap.size:=World.block_lt_of_cell? _ _ e0
   have hbk:wr.heap[g]? = w.heap[g]?:=by obtain ⟨_,_,_,_,_,hF,_⟩:=hL;exact hF.rest g hgl ((unhide HGP) (by omega))
   have y0:=(World.cell?_of_block (w:=w) hbk:wr.cell? ⟨g,j * 3,none⟩=_).trans e0
   have y1:=(World.cell?_of_block (w:=w) hbk:wr.cell? ⟨g,j * 3+1,none⟩=_).trans e1
   have y2:=(World.cell?_of_block (w:=w) hbk:wr.cell? ⟨g,j * 3+2,none⟩=_).trans e2
   have hlen1:l.free.length ≤ 24:=by have:=hll.1;simp [Mod.ld0] at this;omega
   have hlen2:(l.sh r.s).length ≤ 24:=by have:=hll.2 r.s;simp [Mod.ld0] at this;omega
   have HL:=hide hL
   have HST:=hide hst
   have HRF:=hide hrf
   clear hbk e0 e1 e2 hL hsk hst hr hll hrf
   obtain ⟨g6,hg6⟩:∃ g6,g6=wr.heap.size:=⟨_,rfl⟩
   have hpw:p < wr.heap.size:=by obtain ⟨_,_,_,_,K,_⟩:=unhide HL;exact lt_of_block K.blk
   have hg6p:g6 ≠ p:=by omega
   go_upto_region 4 with fail
   rw [← hg6]
   refine wp_world (fun x => x.heap[g6]? = some (.cells #[.int .i64 r.s,.int .i64 r.q,.string r.b] 150 (0,0))∧AgLd w x p s G l) ?_ ?_
   ·rw [hg6]
    exact ⟨heap_alloc_new _ _,(unhide HL).below ((Below.refl _ _).alloc (Nat.le_refl _) _)⟩
   clear y0 y1 y2 hg6 HL hpw
   rintro x ⟨h6,hLx⟩
   have r0:=blk_cell (i:=0) h6
   have r1:=blk_cell (i:=1) h6
   have r2:=blk_cell (i:=2) h6
   simp at r0 r1 r2
   have H6:=hide h6
   have HL:=hide hLx
   obtain ⟨arr,nv,mv,fv,K,F,N⟩:=hLx
   have cg:x.cell? ⟨p,1+r.s,none⟩=some (.int .i64 (G r.s)):=by rw [blk_cell K.blk,K.ag r.s hs3]
   have s0:(0:Int) ≤ (r.s:Int):=by omega
   have s3:(r.s:Int) < 3:=by omega
   obtain ⟨gs,hgs⟩:∃ gs,gs=G r.s:=⟨_,rfl⟩
   rw [← hgs] at cg
   have HGS:=hide hgs
   clear K F N h6 hgs
   by_cases hq:r.q ≤ gs
   ·have hqi:(r.q:Int) ≤ (gs:Int):=by omega
    have hnx:Hid (Mod.ldAll G (rs.take (j+1)) 0 Mod.ld0=some { l with free:=l.free ++ [j] }):=by
     show _=_
     rw [unhide HST]
     unfold Mod.ldStep
     rw [if_pos (by rw [← unhide HGS];exact hq)]
    clear HST hq
    go_quiet (fail)
    go_upto_region 5 with fail
    refine wp_world (fun y => AgLd w y p s G l) ((unhide HL).below (below_drewN (Below.refl _ _) _)) ?_
    clear r0 r1 r2 H6 HL cg hqi
    intro y hL
    obtain ⟨arr,nv,mv,fv,K,F,N⟩:=hL
    obtain ⟨m2,hm2⟩:∃ m2,m2=l.free.length:=⟨_,rfl⟩
    obtain ⟨ad2,cap2,hfv,_⟩:=K.fr.shape
    have hrow2:=K.fr
    rw [← hm2] at hfv hrow2
    have hm24:m2 ≤ 24:=by omega
    have d22:y.cell? ⟨p,22,none⟩=some (.slice ad2 m2 cap2):=by rw [blk_cell K.blk,K.af,hfv]
    rw [hfv] at hrow2
    have hra:=fun ob => hide (hrow2.keep (w':=y.alloc ob) (fun g hg => hao _ _ (hrow2.lt g hg)))
    have hup:=K.fr.ne K.blk (by decide)
    have HAPP:∀ ob v' w1,RowO w1 3 1 v' (m2+1) (numCells l.free ++ [.int .i64 j])→App (y.alloc ob) w1 (.slice ad2 m2 cap2) v' → ∃ ad3 cap3,v' = .slice ad3 (m2+1) cap3∧w1.frozen? ⟨p,22,none⟩=false∧w1.cell? ⟨p,22,none⟩=some (.slice ad2 m2 cap2) ∧
      Hid (AgLd w (w1.setCell ⟨p,22,none⟩ v') p s G { l with free:=l.free ++ [j] }):=by
     intro ob v' w1 h1 h2
     obtain ⟨ad3,cap3,hv3,_⟩:=h1.shape
     have hFz:Far (fun k => (Value.slice ad2 m2 cap2).ownBlock=some k) y w1:=(far_below (E:=fun k => (Value.slice ad2 m2 cap2).ownBlock=some k) ((Below.refl _ _).alloc (Nat.le_refl _) ob)).trans (far_grown h2.grown) (fun _ _ h => h)
     rw [← hfv] at hFz
     have hpb:=hFz.blk K.blk hup
     have hlc:Loc y fv v':=by rw [hfv];exact loc_app (w:=y) (by simp) h2
     have hl1:(l.free ++ [j]).length=m2+1:=by rw [List.length_append,← hm2];rfl
     obtain ⟨arr',K',N',F'⟩:=ka_free (free2:=l.free ++ [j]) K v' hFz (by rw [hl1,show numCells (l.free ++ [j])=numCells l.free ++ [.int .i64 j] by simp [numCells]];exact h1) hlc
     refine ⟨ad3,cap3,hv3,blk_free (i:=22) hpb,?_,hide ⟨arr',nv,mv,v',K',?_,fun k hk => ?_⟩⟩
     ·rw [blk_cell hpb,K.af,hfv]
     ·refine F.trans F' (fun k hk h => ?_)
      rcases h with h | h
      ·exact h
      ·rcases N k (.inr (.inl h)) with h | h
       ·exact h
       ·omega
     ·rcases N' k hk with h | h
      ·exact N k h
      ·exact .inr (Nat.le_trans F.size h)
    clear K F N hrow2 hfv hm2 hup
    go_upto_region 10 with (at_builtin;refine wpList_app_o rfl (.tmp 31) (.tmp 33) 101 rfl 3 _ 1 8 Tryz.underlying101 infoI rfl _ m2 (numCells l.free) (unhide (hra _)) rfl ⟨y.heap.size,0,none⟩ 1 1 [.int .i64 j] rfl rfl cells_new (by intro u hu;simp at hu;subst hu;rfl) (by omega) (by omega) (by omega) ?_;intro v' w1 h1 h2;obtain ⟨ad3,cap3,rfl,zf,z1,HA⟩:=HAPP _ _ _ h1 h2;clear h1 h2;go_simp)
    go_wp2
    exact ⟨⟨j+1,by omega,by go_num,_,unhide hnx,unhide HA⟩,by simp [intOf];omega⟩
   ·have hqi:¬ (r.q:Int) ≤ (gs:Int):=by omega
    have hrfit:r.fits:=by
     rcases unhide HRF with h | h
     ·exfalso
      rw [h] at hq
      exact hq (Nat.zero_le _)
     ·exact h
    have HFIT:=hide hrfit
    have HQG:Hid (¬ r.q ≤ G r.s):=by rw [← unhide HGS];exact hide hq
    clear hrfit hq HRF
    go_quiet (fail)
    go_upto_region 6 with fail
    go_quiet (fail)
    go_upto_region 7 with fail
    refine wp_world (fun y => y.heap[g6]? = some (.cells #[.int .i64 r.s,.int .i64 r.q,.string r.b] 150 (0,0))∧AgLd w y p s G l) ⟨unhide H6,(unhide HL).below (below_drewN (below_drewN (Below.refl _ _) _) _)⟩ ?_
    clear r0 r1 r2 H6 HL cg hqi
    rintro y ⟨h6,hL⟩
    have r1:=blk_cell (i:=1) h6
    simp at r1
    have H6:=hide h6
    have HL:=hide hL
    obtain ⟨arr,nv,mv,fv,K,F,N⟩:=hL
    have hHas:=hasA_any K.blk (K.am (r.s * 3) (by omega)) (K.shs (r.s * 3) (by omega)) (by rw [shOf_kept];exact areA_toV _) (r.q:Int)
    rw [shOf_kept,look_isSome,keys_toV,show 4+r.s * 3 * 2=4+r.s * 6 by omega] at hHas
    obtain ⟨hb,hhb⟩:∃ hb,hb=((l.sh r.s).map (·.1)).contains r.q:=⟨_,rfl⟩
    rw [← hhb] at hHas
    have HHS:=hide hHas
    have HHB:=hide hhb
    clear K F N h6 hHas hhb
    cases hb with
    | true =>
     have hbad:Hid (Mod.ldRes G rs=none):=by
      have h:=unhide HST
      unfold Mod.ldStep at h
      rw [if_neg (unhide HQG),← unhide HHB,if_pos rfl] at h
      show _=_
      unfold Mod.ldRes
      rw [Mod.ldAll_bad h]
     have HF:Hid (Far (fun k => k=p) w y):=by obtain ⟨_,_,_,_,_,F,_⟩:=unhide HL;exact F
     clear HST HL
     go_wp2_with (go_at_call 115;refine (unhide HHS).mono ?_;rintro e y2 ⟨rfl,hb2⟩;replace hb2:=hide hb2)
     go_ret
     refine ⟨ret_b (by rw [unhide hbad];rfl),(unhide HF).trans (far_below (E:=fun _ => False) (unhide hb2)) (fun _ _ h => h.elim),fun l2 h => ?_⟩
     rw [unhide hbad] at h
     cases h
    | false =>
     have hnx:Hid (Mod.ldAll G (rs.take (j+1)) 0 Mod.ld0=some { l with sh:=fun i => if i=r.s then Mod.insP (l.sh r.s) (r.q,r.b,j) else l.sh i }):=by
      show _=_
      rw [unhide HST]
      unfold Mod.ldStep
      rw [if_neg (unhide HQG),← unhide HHB,if_neg (by simp)]
     clear HST
     go_upto_region 9 with (go_at_call 115;refine (unhide HHS).mono ?_;rintro e y2 ⟨rfl,hb2⟩)
     refine wp_world (fun y => y.heap[g6]? = some (.cells #[.int .i64 r.s,.int .i64 r.q,.string r.b] 150 (0,0))∧AgLd w y p s G l) ⟨(hb2.block _ (lt_of_block (unhide H6))).trans (unhide H6),(unhide HL).below hb2⟩ ?_
     clear hb2 HHS H6 HL r1
     rintro z ⟨h6,hL⟩
     have r1:=blk_cell (i:=1) h6
     have r2:=blk_cell (i:=2) h6
     simp at r1 r2
     have HL:=hide hL
     obtain ⟨arr,nv,mv,fv,K,F,N⟩:=hL
     have SA:ShAt z p (4+r.s * 3 * 2) 116 arr (nv (r.s * 3)) (mv (r.s * 3)) ((l.sh r.s).map toV):=⟨K.blk,K.an _ (by omega),K.am _ (by omega),by have:=K.shs (r.s * 3) (by omega);rw [shOf_kept] at this;exact this,by decide⟩
     have hPut:=putA_any SA (by simp;omega) r.q r.b j
     have hpt:=putL_toV (r.q,r.b,j) (l.sh r.s)
     simp only at hpt
     rw [hpt] at hPut
     unfold recA at hPut
     rw [show 4+r.s * 3 * 2=4+r.s * 6 by omega] at hPut
     have hfin:∀ z2,ShStep z z2 p (4+r.s * 6) 116 arr (nv (r.s * 3)) (mv (r.s * 3)) ((Mod.insP (l.sh r.s) (r.q,r.b,j)).map toV)→AgLd w z2 p s G { l with sh:=fun i => if i=r.s then Mod.insP (l.sh r.s) (r.q,r.b,j) else l.sh i }:=by
      intro z2 hst
      rw [show 4+r.s * 6=4+r.s * 3 * 2 by omega] at hst
      obtain ⟨arr',nv',mv',K',N',F'⟩:=ka_sh K (by omega) hst
      refine ⟨arr',nv',mv',fv,?_,?_,fun k hk => ?_⟩
      ·have:=shOf_put l r.s (Mod.insP (l.sh r.s) (r.q,r.b,j))
       rw [this] at K'
       exact K'
      ·refine F.trans F' (fun k hk h => ?_)
       rcases h with h | h
       ·exact h
       ·rcases N k (.inr (.inr ⟨r.s * 3,by omega,h⟩)) with h | h
        ·exact h
        ·omega
      ·rcases N' k hk with h | h
       ·exact N k h
       ·exact .inr (Nat.le_trans F.size h)
     have HFIN:=fun z2 h => hide (hfin z2 h)
     have HPUT:=hide hPut
     clear K F N h6 SA hPut hpt hfin HL
     go_wp2_with (go_at_call 81;refine (unhide HPUT).mono ?_;rintro e z2 ⟨rfl,hst⟩;have HZ2:=HFIN z2 hst;clear hst)
     exact ⟨⟨j+1,by omega,by go_num,_,unhide hnx,unhide HZ2⟩,by simp [intOf];omega⟩
  ·have hjm:j=m:=by omega
   have hall:Mod.ldAll G rs 0 Mod.ld0=some l:=by
    rw [← hsk,List.take_of_length_le (by have:=unhide HML;omega)]
   have hlen:=Mod.ldAll_len _ _ _ _ hall
   have hnum:∀ i,∀ e ∈ l.sh i,e.1 ≤ 2147483647:=Mod.ldAll_inv (fun _ e => e.1 ≤ 2147483647) _ _ _ _ hall (fun i e he => by cases he) (fun k r hr _ => by
    rcases (unhide HRS) r (List.mem_of_getElem? hr) with h | h
    ·rw [h];exact Nat.zero_le _
    ·exact h.2.2.1)
   have hls:∀ t,t < 3→(l.sh t).length ≤ 24:=fun t _ => by have:=hlen.2 t;have:=unhide HML;simp [Mod.ld0] at *;omega
   have hlast:∀ t,t < 3→Mod.lastP (l.sh t) (G t) ≤ 2147483647:=fun t ht => by
    have h1:=(unhide HGM) t ht
    unfold Mod.lastP
    cases hq:(l.sh t).getLast? with
    | none => simp only;omega
    | some e =>
     have:=hnum t e (List.mem_of_getLast? hq)
     simp only
     omega
   have HALL:=hide (And.intro hall (And.intro hls hlast))
   obtain ⟨W0,hW0⟩:∃ W0,W0=wr:=⟨_,rfl⟩
   rw [← hW0] at hL
   have HW0:=hide hW0
   have HL:=hide hL
   have hjn:¬ (j:Int) < (m:Int):=by omega
   clear hW0 hL hall hls hlast hlen hnum hsk hjm hlt
   go_wp2
   go_loopw [8,9,57] (fun _ _ i wr2 => ∃ t:Nat,t ≤ 3∧i = .int .i64 t∧Below W0.heap.size W0 wr2∧∀ k,k < t→Mod.okP (l.sh k) (G k)=true) (fun _ _ i _ => 3 - (intOf i).toNat)
   case atStart => exact ⟨0,by omega,rfl,by rw [unhide HW0];exact Below.refl _ _,fun k hk => by omega⟩
   case round =>
    obtain ⟨t,ht,rfl,hb,hok⟩:=hrel
    by_cases ht3:t < 3
    ·have hLt:=(unhide HL).below hb
     obtain ⟨arr,nv,mv,fv,K,F,N⟩:=hLt
     have HLA:=hide (kaLast_any K ht3)
     have HB:=hide hb
     have hlm:=(unhide HALL).2.2 t ht3
     have hlt24:=(unhide HALL).2.1 t ht3
     have hgm:=(unhide HGM) t ht3
     have ht0:(0:Int) ≤ (t:Int):=by omega
     have ht3':(t:Int) < 3:=by omega
     obtain ⟨la,hla⟩:∃ la,la=Mod.lastP (l.sh t) (G t):=⟨_,rfl⟩
     obtain ⟨ln,hln⟩:∃ ln,ln=(l.sh t).length:=⟨_,rfl⟩
     obtain ⟨gt,hgt⟩:∃ gt,gt=G t:=⟨_,rfl⟩
     have hokt:Mod.okP (l.sh t) (G t)=(decide (la ≤ 1073741824) && decide (la=gt+ln)):=by rw [hla,hln,hgt];rfl
     rw [← hla] at HLA hlm
     rw [← hln] at hlt24
     rw [← hgt] at hgm
     have HOK:=hide (And.intro hok hokt)
     have HLG:=hide (And.intro hln hgt)
     clear K F N hb hla hln hgt hok hokt
     have hsumw:IntKind.i64.wrap ((gt:Int)+(ln:Int))=(gt:Int)+(ln:Int):=by rw [IntKind.wrap_i64];omega
     have hbad:Hid (Mod.okP (l.sh t) (G t)=false→Mod.ldRes G rs=none):=by
      refine hide (fun h => ?_)
      unfold Mod.ldRes
      rw [(unhide HALL).1]
      simp only
      rw [if_neg]
      rintro ⟨q0,q1,q2⟩
      obtain rfl | rfl | rfl:t=0 ∨ t=1 ∨ t=2:=by omega
      ·rw [h] at q0;cases q0
      ·rw [h] at q1;cases q1
      ·rw [h] at q2;cases q2
     unfold ptrTo at *
     go_upto_region 15 with (go_at_call 79;refine (unhide HLA).mono ?_;rintro r y ⟨rfl,q,rfl⟩)
     refine wp_world (fun x => Below W0.heap.size W0 x) ((unhide HB).trans (below_drewN (Below.refl _ _) _ |>.mono (unhide HB).size)) ?_
     clear HB HLA
     intro x hbx
     have hLx:=(unhide HL).below hbx
     obtain ⟨arr,nv,mv,fv,K,F,N⟩:=hLx
     have HB:=hide hbx
     have hLen:∀ n,Calls Tryz.prog 110 #[.pointer (some ⟨p,4+t * 3 * 2,none⟩)] (x.drewN n) fun e w' => e = .returned (.int .i64 ((shOf l (t * 3)).length:Nat))∧w' = x.drewN n:=fun n => lenA_any (w:=x.drewN n) K.blk (K.an (t * 3) (by omega)) ((K.shs (t * 3) (by omega)).far (far_drewN (fun _ => False) x n) (fun _ _ h => h))
     have hshl:(shOf l (t * 3)).length=ln:=by rw [shOf_kept,List.length_map,(unhide HLG).1]
     rw [hshl,show 4+t * 3 * 2=4+t * 6 by omega] at hLen
     have HLen:=fun n => hide (hLen n)
     have c1:x.cell? ⟨p,1+t,none⟩=some (.int .i64 gt):=by rw [blk_cell K.blk,K.ag t ht3,(unhide HLG).2]
     clear K F N hbx hLen hshl
     by_cases c2:(1073741824:Int) < (la:Int)
     ·have hno:=(unhide hbad) (by rw [(unhide HOK).2,decide_eq_false (show ¬ la ≤ 1073741824 by omega)];rfl)
      have HNO:=hide hno
      clear hno hbad HOK
      go_quiet (first | (go_at_call 110;exact Calls.quiet_of_same (unhide (HLen _))))
      go_wp2
      go_ret
      refine ⟨ret_b (by rw [unhide HNO];rfl),?_,fun l2 h => ?_⟩
      ·obtain ⟨_,_,_,_,_,F,_⟩:=unhide HL
       exact F.trans (far_below (E:=fun _ => False) ((unhide HB).trans (below_drewN (Below.refl _ _) _ |>.mono (unhide HB).size))) (fun _ _ h => h.elim)
      ·rw [unhide HNO] at h
       cases h
     ·by_cases c3:(la:Int)=(gt:Int)+(ln:Int)
      ·have c3':((la:Int) != (gt:Int)+(ln:Int))=false:=by simp [c3]
       have hyes:Hid (Mod.okP (l.sh t) (G t)=true):=by
        show _=_
        rw [(unhide HOK).2,decide_eq_true (show la ≤ 1073741824 by omega),decide_eq_true (show la=gt+ln by omega)]
        rfl
       clear hbad c3
       go_quiet (first | (go_at_call 110;exact Calls.quiet_of_same (unhide (HLen _))))
       go_wp2
       refine ⟨⟨t+1,by omega,by go_num,(unhide HB).trans (below_drewN (Below.refl _ _) _ |>.mono (unhide HB).size),fun k hk => ?_⟩,by simp [intOf];omega⟩
       by_cases e:k=t
       ·rw [e];exact unhide hyes
       ·exact (unhide HOK).1 k (by omega)
      ·have c3':((la:Int) != (gt:Int)+(ln:Int))=true:=by simp;omega
       have hno:=(unhide hbad) (by rw [(unhide HOK).2,decide_eq_false (show ¬ la=gt+ln by omega)];simp)
       have HNO:=hide hno
       clear hno hbad HOK c3
       go_quiet (first | (go_at_call 110;exact Calls.quiet_of_same (unhide (HLen _))))
       go_wp2
       go_ret
       refine ⟨ret_b (by rw [unhide HNO];rfl),?_,fun l2 h => ?_⟩
       ·obtain ⟨_,_,_,_,_,F,_⟩:=unhide HL
        exact F.trans (far_below (E:=fun _ => False) ((unhide HB).trans (below_drewN (Below.refl _ _) _ |>.mono (unhide HB).size))) (fun _ _ h => h.elim)
       ·rw [unhide HNO] at h
        cases h
    ·have e3:t=3:=by omega
     subst e3
     have hres:Mod.ldRes G rs=some l:=by
      unfold Mod.ldRes
      rw [(unhide HALL).1]
      simp only
      rw [if_pos ⟨hok 0 (by omega),hok 1 (by omega),hok 2 (by omega)⟩]
     have HRES:=hide hres
     have HLL:=hide ((unhide HL).below hb)
     clear hres hok hb HL
     go_wp2
     go_ret
     refine ⟨ret_b (by rw [unhide HRES];rfl),?_,fun l2 h => ?_⟩
     ·obtain ⟨_,_,_,_,_,F,_⟩:=unhide HLL
      exact F
     ·rw [unhide HRES] at h
      cases h
      exact unhide HLL
end Go.Proofs.YtamafdcnbcoegabGreat
namespace Go.Proofs.YtamafdcnbcoegabGreat
open Go.RowKit
set_option maxHeartbeats 400000 in
theorem agOpen_len (w:World) (v:Value) (L:List UInt8) (hat:BytesAt w v L) (hL:L.length ≠ 1664) :
  Calls Tryz.prog 49 #[v] w fun r w' => r = .returned (.tuple #[.pointer none,.int .i64 2])∧w' = w:=by
 obtain ⟨ad,cap,rfl,hl1,hl2,_⟩:=hat
 obtain ⟨n,hn⟩:∃ n,n=L.length:=⟨_,rfl⟩
 rw [← hn] at hL hl1 hl2 ⊢
 have h1:((n:Int) != 1664)=true:=by simp;omega
 clear hn
 go_enter Tryz.func49,Tryz.ntmps49
 go_wp2
 go_ret2
 exact ⟨rfl,rfl⟩
set_option maxHeartbeats 1000000 in
theorem agOpen_bad (w:World) (v:Value) (L:List UInt8) (hat:BytesAt w v L) (hL:L.length=1664) (ho:Mod.openSt L=none) :
  Calls Tryz.prog 49 #[v] w fun r w' => r = .returned (.tuple #[.pointer none,.int .i64 2])∧Below w.heap.size w w':=by
 have hSO:=hide (storeOpen_no w v L 26 hat (by omega) (by omega) (by omega) ho)
 obtain ⟨ad,cap,rfl,hl1,hl2,_⟩:=hat
 obtain ⟨n,hn⟩:∃ n,n=L.length:=⟨_,rfl⟩
 rw [← hn] at hL hl1 hl2 hSO ⊢
 subst hL
 clear hn ho
 go_enter Tryz.func49,Tryz.ntmps49
 go_wp2_with (go_at_call 74;refine (unhide hSO).mono ?_;rintro r y ⟨rfl,hb⟩;replace hb:=hide hb)
 go_ret2
 exact ⟨rfl,(unhide hb).alloc (unhide hb).size _⟩
def newAgN (s a b d:Nat) (rv:Value):Array Value:=#[ptrTo s,.int .i64 a,.int .i64 b,.int .i64 d,
 .slice none 0 0,.map none,.slice none 0 0,.map none,.slice none 0 0,.map none,.slice none 0 0,.map none,.slice none 0 0,.map none,.slice none 0 0,.map none,.slice none 0 0,.map none,.slice none 0 0,.map none,.slice none 0 0,.map none,
 .slice none 0 0,.int .i64 0,.bool false,.bool false,rv]
theorem paAt_ld {w x:World} {p s dp:Nat} {g:Nat→Nat} {l:Mod.Ld} {dlv duv rv:Value} {st:Mod.Stv} (h:AgLd w x p s g l) (hs:StAt x s dp st dlv duv) (hl:st.dk.bytes.length=1664) (hn:∀ k,StU s dp dlv duv k→k ≠ p)
  {y:World} (hy:y=x.setCell ⟨p,26,none⟩ rv) {R:Obj} (hr:RowO (y.alloc R) 134 2 rv 3 (agRules p)) :
  ∃ c,PaAt (y.alloc R) p g 0 false false l.free (shOf l) st c∧(∀ k,PaU p c k→k=p ∨ w.heap.size ≤ k ∨ StU s dp dlv duv k ∨ rv.ownBlock=some k):=by
 obtain ⟨arr,nv,mv,fv,K,F,N⟩:=h
 subst hy
 have hset:=far_set x p 26 rv
 have hba:Below (x.setCell ⟨p,26,none⟩ rv).heap.size (x.setCell ⟨p,26,none⟩ rv) ((x.setCell ⟨p,26,none⟩ rv).alloc R):=(Below.refl _ _).alloc (Nat.le_refl _) _
 have hF2:Far (fun k => k=p) x ((x.setCell ⟨p,26,none⟩ rv).alloc R):=hset.trans (far_below (E:=fun _ => False) hba) (fun _ _ h => h.elim)
 have hget:∀ j,j ≠ 26→(arr.setIfInBounds 26 rv)[j]? = arr[j]?:=fun j hj => Array.getElem?_setIfInBounds_ne (fun e => hj e.symm)
 refine ⟨⟨arr.setIfInBounds 26 rv,s,dp,nv,mv,fv,rv,dlv,duv⟩,⟨⟨?_,by simpa using K.sz,?_,?_,?_,?_,?_,?_,?_,?_,?_,?_,?_,K.apf,K.aps⟩,?_,hr,hl⟩,?_⟩
 ·exact (hba.block p (by simp;exact lt_of_block K.blk)).trans (blk_set K.blk)
 ·rw [hget _ (by omega)];exact K.a0
 ·intro i hi;rw [hget _ (by omega)];exact K.ag i hi
 ·intro i hi;rw [hget _ (by omega)];exact K.an i hi
 ·intro i hi;rw [hget _ (by omega)];exact K.am i hi
 ·rw [hget _ (by omega)];exact K.af
 ·rw [hget _ (by omega)];exact K.at'
 ·rw [hget _ (by omega)];exact K.aw
 ·rw [hget _ (by omega)];exact K.ae
 ·have:=K.sz
  simp [this]
 ·exact K.fr.far hF2 (fun g hg e => K.fr.ne K.blk (by decide) (by rw [hg,e]))
 ·intro i hi
  exact (K.shs i hi).far hF2 (fun k hk e => (K.shs i hi).ne K.blk (by decide) (by rw [← e];exact hk))
 ·exact hs.far hF2 (fun k hk e => hn k hk e)
 ·rintro k (h | h | h)
  ·rcases N k h with h | h
   ·exact .inl h
   ·exact .inr (.inl h)
  ·exact .inr (.inr (.inl h))
  ·exact .inr (.inr (.inr h))
set_option maxRecDepth 100000 in
set_option maxHeartbeats 8000000 in
theorem agOpen_some (w:World) (v:Value) (L:List UInt8) (hat:BytesAt w v L) (hL:L.length=1664) {h:Mod.Hd} {at':Nat} {rs:List Mod.Rc} (ho:Mod.openSt L=some (h,at',rs)) :
  Calls Tryz.prog 49 #[v] w fun r w' => Mod.ldRes h.num rs=none∧r = .returned (.tuple #[.pointer none,.int .i64 2])∧Below w.heap.size w w' ∨
   ∃ l p c,Mod.ldRes h.num rs=some l∧r = .returned (.tuple #[ptrTo p,.int .i64 0])∧PaAt w' p h.num 0 false false l.free (shOf l) (newStv L h at') c∧Below w.heap.size w w' ∧ ∀ k,PaU p c k→w.heap.size ≤ k:=by
 have hSO:=storeOpen_yes w v L 26 hat (by omega) (by omega) (by omega) ho
 rw [newStv_eq] at hSO
 obtain ⟨hne,hrf⟩:=Mod.openSt_some ho
 have hfit:=rs_fits hrf
 have hrl:rs.length=24:=by
  have:=(Mod.recsFrom_some _ _ hrf).1
  rw [this,hL]
 obtain ⟨_,hok,hhd,_⟩:=Mod.newest_some hne
 have hsm:=Mod.headIs_small hok
 rw [← hhd] at hsm
 have hnum:∀ i,i < 3→h.num i ≤ 2147483647:=fun i _ => by
  unfold Mod.Hd.num
  split
  ·omega
  ·split <;> omega
 have hlen:(newStv L h at').dk.bytes.length=1664:=by
  have:=(Mod.opened_ok hne (m:=26) (by omega) (by omega)).len
  exact this
 obtain ⟨ad,cap,rfl,hl1,hl2,_⟩:=hat
 obtain ⟨n,hn⟩:∃ n,n=L.length:=⟨_,rfl⟩
 rw [← hn] at hL hl1 hl2 hSO ⊢
 subst hL
 generalize newStv L h at' = st at *
 have e0:h.num 0=h.a:=rfl
 have e1:h.num 1=h.b:=rfl
 have e2:h.num 2=h.d:=rfl
 rw [← e0,← e1,← e2] at hSO
 generalize h.num=G at *
 have HSO:=hide hSO
 have HH:=hide (And.intro hfit (And.intro hrl (And.intro hlen hnum)))
 clear hn ho hne hrf hok hhd hsm hSO hfit hrl hlen e0 e1 e2 hnum
 obtain ⟨res,hres⟩:∃ res,res=Mod.ldRes G rs:=⟨_,rfl⟩
 rw [← hres]
 obtain ⟨na,hna⟩:∃ na,na=G 0:=⟨_,rfl⟩
 obtain ⟨nb,hnb⟩:∃ nb,nb=G 1:=⟨_,rfl⟩
 obtain ⟨nd,hnd⟩:∃ nd,nd=G 2:=⟨_,rfl⟩
 rw [← hna,← hnb,← hnd] at HSO
 have HG:=hide (And.intro hna (And.intro hnb hnd))
 clear hna hnb hnd
 unfold ptrTo at *
 go_enter Tryz.func49,Tryz.ntmps49
 go_upto_region 7 with (go_at_call 74;refine (unhide HSO).mono ?_;rintro r y ⟨s,dp,lv,uv,rv,rfl,hST,hSU,hrow,hb⟩;obtain ⟨ra,rc,rfl,_,_,hra⟩:=(RowO.of_own (ownsRow_monoB hrow (Nat.zero_le _))).shape)
 obtain ⟨gr,og,rfl,_⟩:=hra (by omega)
 have hog:og=0:=by
  rcases hrow with ⟨_,⟨h,_⟩ | ⟨g',cap',cur',h,_⟩⟩
  ·cases h
  ·injection h with h;injection h with h;injection h
 subst hog
 clear hra
 obtain ⟨g5,hg5⟩:∃ g5,g5=y.heap.size:=⟨_,rfl⟩
 have HG5:=hide hg5
 rw [← hg5]
 have hgw:w.heap.size ≤ g5:=by have:=hb.size;omega
 clear hg5
 refine wp_world (fun x => x.heap[g5]? = some (.cells #[.int .i64 na,.int .i64 nb,.int .i64 nd,.slice (some ⟨gr,0,none⟩) 24 rc] 143 (0,0))∧x.heap[g5+1]? = some (.cells (newAgN s na nb nd (.slice none 0 0)) 116 (0,0))∧Below g5 y x) ?_ ?_
 ·rw [unhide HG5]
  exact alloc2 _ _ _
 rintro x ⟨h5,h6,hbx⟩
 have hxx:=lt_of_block h6
 have y3:=blk_cell (i:=3) h5
 simp at y3
 have hrx:=ownsRow_keepB (ownsRow_monoB hrow (Nat.zero_le _)) (fun g hg => by have:=(World.ownsRow.lt hrow g hg).2;exact hbx.block g (by rw [unhide HG5];exact this))
 have hSTx:=hide (hST.far (far_below (E:=fun _ => False) (by rw [← unhide HG5];exact hbx)) (fun _ _ h => h))
 have HSU:=hide hSU
 have HB:=hide (hb.trans (hbx.mono hgw))
 have H6:=hide h6
 have hnew:AgLd x x (g5+1) s G Mod.ld0:=agLd_new h6 (by rw [← (unhide HG).1,← (unhide HG).2.1,← (unhide HG).2.2];rfl)
 have hLD:=agLoad_any hnew hrx (unhide HH).2.1 (by omega) (unhide HH).1 (unhide HH).2.2.2
 rw [← hres] at hLD
 have HLD:=hide hLD
 have HRES:=hide hres
 clear hST hSU hrow hrx hb hbx h5 h6 HG5 hnew hLD hres
 have hnS:¬ StU s dp lv uv (g5+1):=by
  rintro (h | h)
  ·have h1:=(unhide hSTx).blk
   rw [← h,unhide H6] at h1
   injection h1 with h1
   injection h1 with _ h1 _
   exact absurd h1 (by decide)
  ·exact dk_ne (unhide hSTx).dk (unhide H6) (by decide) (by decide) (by decide) h
 unfold ptrTo at HLD
 cases res with
 | none =>
  go_wp2_with (go_at_call 75;refine (unhide HLD).mono ?_;rintro r z ⟨rfl,hF,_⟩;replace hF:=hide hF)
  go_ret2
  have hFw:Far (fun k => k=g5+1) w z:=(far_below (E:=fun k => k=g5+1) (unhide HB)).trans (unhide hF) (fun _ _ h => h)
  first | exact .inl ⟨rfl,rfl,hFw.below (Nat.le_refl _) (fun k hk h => by omega)⟩ | exact ⟨rfl,hFw.below (Nat.le_refl _) (fun k hk h => by omega)⟩ | exact .inl ⟨rfl,hFw.below (Nat.le_refl _) (fun k hk h => by omega)⟩
 | some l =>
  go_upto_region 9 with (go_at_call 75;refine (unhide HLD).mono ?_;rintro r z ⟨rfl,hF,hl⟩;have hL:=hl l rfl;clear hl)
  have hSx':=(unhide hSTx).far hF (fun k hk e => hnS (by rw [← e];exact hk))
  have hFw:Far (fun k => k=g5+1) w z:=(far_below (E:=fun k => k=g5+1) (unhide HB)).trans hF (fun _ _ h => h)
  have hbw:Below w.heap.size w z:=hFw.below (Nat.le_refl _) (fun k hk h => by omega)
  have HLL:=hide (And.intro hL (And.intro hSx' hbw))
  obtain ⟨arr,nv,mv,fv,K,_,_⟩:=hL
  have hpz:g5+1 < z.heap.size:=lt_of_block K.blk
  have q26:z.cell? ⟨g5+1,26,none⟩=some (.slice none 0 0):=by rw [blk_cell K.blk];exact K.ar
  have hca:∀ o,(z.alloc o).cell? ⟨g5+1,26,none⟩=some (.slice none 0 0):=fun o => (World.cell?_alloc_lt z _ ⟨g5+1,26,none⟩ hpz).trans q26
  have hfa:∀ o,(z.alloc o).frozen? ⟨g5+1,26,none⟩=false:=fun o => blk_free (i:=26) ((hao _ _ hpz).trans K.blk)
  have hzg:¬ g5+1=z.heap.size:=by omega
  clear q26 K hF hFw hbw hSx' y3 HLD
  go_wp2
  go_ret2
  obtain ⟨hL,hS,hbw⟩:=unhide HLL
  obtain ⟨R,hR⟩:∃ R,R=Obj.cells (agRules (g5+1)).toArray 134 (0,0):=⟨_,rfl⟩
  obtain ⟨z2,hz2⟩:∃ z2,z2=z.setCell ⟨g5+1,26,none⟩ (.slice (some ⟨z.heap.size,0,none⟩) 3 3):=⟨_,rfl⟩
  have hsz2:z2.heap.size=z.heap.size:=by rw [hz2,World.size_setCell]
  have hr2:RowO (z2.alloc R) 134 2 (.slice (some ⟨z.heap.size,0,none⟩) 3 3) 3 (agRules (g5+1)):=by
   refine ⟨by simp [agRules],.inr ⟨z.heap.size,0,3,(agRules (g5+1)).toArray,rfl,?_,by omega,by unfold maxLen;omega,by simp [agRules],by simp [agRules]⟩⟩
   rw [← hsz2,heap_alloc_new,hR]
  obtain ⟨c,hPK,hPU⟩:=paAt_ld hL hS (unhide HH).2.2.1 (fun k hk e => hnS (by rw [← e];exact hk)) hz2 hr2
  have hR2:R=Obj.cells #[.int .i64 2,.func (.func 76) #[.pointer (some ⟨g5+1,0,none⟩)] #[],.int .i64 4,.func (.func 77) #[.pointer (some ⟨g5+1,0,none⟩)] #[],.int .i64 5,.func (.func 78) #[.pointer (some ⟨g5+1,0,none⟩)] #[]] 134 (0,0):=by rw [hR];rfl
  subst hR2
  subst hz2
  have hwx:=(unhide HB).size
  have hfin:∀ z3,z3=((z.setCell ⟨g5+1,26,none⟩ (.slice (some ⟨z.heap.size,0,none⟩) 3 3)).alloc (.cells #[.int .i64 2,.func (.func 76) #[.pointer (some ⟨g5+1,0,none⟩)] #[],.int .i64 4,.func (.func 77) #[.pointer (some ⟨g5+1,0,none⟩)] #[],.int .i64 5,.func (.func 78) #[.pointer (some ⟨g5+1,0,none⟩)] #[]] 134 (0,0)))→Below w.heap.size w z3∧∀ k,PaU (g5+1) c k→w.heap.size ≤ k:=by
   rintro _ rfl
   refine ⟨(hbw.setCell (p:=⟨g5+1,26,none⟩) (by show w.heap.size ≤ g5+1;omega) _).alloc (by rw [World.size_setCell];exact hbw.size) _,fun k hk => ?_⟩
   rcases hPU k hk with h | h | h | h
   ·omega
   ·omega
   ·exact (unhide HSU) k h
   ·have h2:some z.heap.size=some k:=h
    injection h2 with h2
    have:=hbw.size
    omega
  obtain ⟨f1,f2⟩:=hfin _ rfl
  first | exact .inr ⟨l,g5+1,c,rfl,rfl,hPK,f1,f2⟩ | exact ⟨l,g5+1,c,rfl,rfl,hPK,f1,f2⟩
end Go.Proofs.YtamafdcnbcoegabGreat
namespace Go.Proofs.YtamafdcnbcoegabGreat
open Go.RowKit
section
variable {w:World} {p:Nat} {g:Nat→Nat} {tk:Nat} {wel fen:Bool} {free:List Nat} {sh:Nat→List (Nat × Value)} {st:Mod.Stv} {c:Av} {a:Mod.Ag} {pl:Nat→List Nat}
end
theorem onAg_opened {L:List UInt8} {hd:Mod.Hd} {at':Nat} {rs:List Mod.Rc} {l:Mod.Ld} (ho:Mod.openSt L=some (hd,at',rs)) (hl:Mod.ldAll hd.num rs 0 Mod.ld0=some l) (hk:∀ i,i < 3→Mod.okP (l.sh i) (hd.num i)=true) (hlen:L.length=1664) :
  OnAg (Mod.agOf hd.o hd.num l) (hd.o+1) hd.num l.free (shOf l) (Mod.plOf l):=by
 obtain ⟨h1,P,h3⟩:=Mod.agDisk_opened ho hl hk hlen
 have hbs:∀ i,i < 3→((Mod.agOf hd.o hd.num l).fl i).base=hd.num i:=fun i hi => by unfold Mod.agOf;simp only;rw [if_pos hi]
 have hkt:∀ i,i < 3→((Mod.agOf hd.o hd.num l).fl i).kept=(l.sh i).map fun e => (e.2.1,0):=fun i hi => by unfold Mod.agOf;simp only;rw [if_pos hi]
 have hhd:∀ i,i < 3→((Mod.agOf hd.o hd.num l).fl i).held = []:=fun i hi => by unfold Mod.agOf;simp only;rw [if_pos hi]
 have hsh1:∀ i,shOf l (i * 3+1) = []:=fun i => by unfold shOf;rw [if_neg (by omega)]
 have hsh2:∀ i,shOf l (i * 3+2) = []:=fun i => by unfold shOf;rw [if_neg (by omega)]
 refine ⟨rfl,fun i hi => (hbs i hi).symm,P.pn,fun i hi => ?_,fun i hi n => ?_,fun i hi => ?_,fun i hi n => ?_,fun i hi => ?_,fun i hi => ?_,P.nd,P.lt,P.sum⟩
 ·rw [shOf_kept,keptL_toV,hbs i hi,hkt i hi,h3 i hi]
 ·rw [hsh1]
  unfold sentF
  rw [hkt i hi,List.getElem?_map]
  show none=_
  split
  ·rfl
  ·cases (l.sh i)[n - ((Mod.agOf hd.o hd.num l).fl i).base - 1]? with
   | none => rfl
   | some e => rfl
 ·rw [hsh1];exact fun x hx => by cases hx
 ·rw [hsh2,hhd i hi];rfl
 ·rw [hsh2];exact fun x hx => by cases hx
 ·rw [hsh2];simp
end Go.Proofs.YtamafdcnbcoegabGreat
namespace Go.Proofs.YtamafdcnbcoegabGreat
open Go.RowKit
def CyAt (op ct n:Nat) (w:World) (v:Nat) (a:Mod.Ag) (U:Nat→Prop):Prop :=
 ∃ p g free sh pl st c,w.heap[v]? = some (.cells #[ptrTo p] 76 (0,0))∧PaAt w p g a.ticks a.welcome a.fenced free sh st c∧AlvA op ct n st a free pl∧OnAg a st.opening g free sh pl∧U=fun k => k=v ∨ PaU p c k
section
variable {op ct n N:Nat} {w w':World} {v:Nat} {a:Mod.Ag} {U:Nat→Prop}
theorem cyAt_lt (h:CyAt op ct n w v a U):∀ k,U k→k < w.heap.size:=by
 obtain ⟨p,g,free,sh,pl,st,c,hb,H,_,_,rfl⟩:=h
 rintro k (rfl | hk)
 ·exact lt_of_block hb
 ·exact H.lt k hk
theorem cyAt_far {E:Nat→Prop} (h:CyAt op ct n w v a U) (hf:Far E w w') (hE:∀ k,U k→¬ E k):CyAt op ct n w' v a U:=by
 obtain ⟨p,g,free,sh,pl,st,c,hb,H,h1,h2,rfl⟩:=h
 exact ⟨p,g,free,sh,pl,st,c,hf.blk hb (hE v (.inl rfl)),H.far hf (fun k hk => hE k (.inr hk)),h1,h2,rfl⟩
theorem cyAt_plain (h:CyAt op ct 0 w v a U):CaAt w v a U:=by
 obtain ⟨p,g,free,sh,pl,st,c,hb,H,h1,h2,rfl⟩:=h
 exact ⟨p,g,free,sh,pl,st,c,hb,H,h1.sound,h2,rfl⟩
theorem cyAt_ep (h:CyAt op ct n w v a U):a.epoch=op:=by
 obtain ⟨p,g,free,sh,pl,st,c,hb,H,h1,h2,rfl⟩:=h
 rw [← h2.ep]
 exact h1.op
theorem cyAt_is {p:Nat} {c:Av} {z:World} {a':Mod.Ag} (hb:w.heap[v]? = some (.cells #[ptrTo p] 76 (0,0))) (hnv:¬ PaU p c v) (h:AgIs2 op ct n w z p a' c) :
  ∃ U',CyAt op ct n z v a' U' ∧ Far (fun k => k=v ∨ PaU p c k) w z∧∀ k,U' k→(k=v ∨ PaU p c k) ∨ w.heap.size ≤ k:=by
 obtain ⟨g,free,sh,pl,st,⟨c',K,F',Nn,s1,s2⟩,hs,O⟩:=h
 refine ⟨_,⟨p,g,free,sh,pl,st,c',F'.blk hb hnv,K,hs,O,rfl⟩,F'.mono (fun _ _ h => .inr h),?_⟩
 rintro k (rfl | hk)
 ·exact .inl (.inl rfl)
 ·exact (Nn k hk).imp .inr id
theorem cyImg (h:CyAt op ct n w v a U):∃ (L:List UInt8) (c2 hd:Nat) (free:List Nat) (pl:Nat→List Nat),Mod.AgDisk L op c2 hd a free pl∧Mod.Places a free pl∧∀ x,Below w.heap.size w x→∀ keep:Int,
  Calls Tryz.prog 23 #[ptrTo v,.int .u64 keep] x fun r y => ∃ v',r = .returned v' ∧ Owns x.heap.size y v' L∧Below x.heap.size x y:=by
 obtain ⟨p,g,free,sh,pl,st,c,hb,H,hs,O,rfl⟩:=h
 refine ⟨st.dk.bytes,st.count,st.head,free,pl,by rw [← hs.op];exact hs.dk,O.places,fun x hx keep => ?_⟩
 exact caImageOf ((hx.block _ (lt_of_block hb)).trans hb) (H.far (E:=fun _ => False) (far_below hx) (fun _ _ e => e)) keep
end
theorem ldRes_some {g:Nat→Nat} {rs:List Mod.Rc} {l:Mod.Ld} (h:Mod.ldRes g rs=some l):Mod.ldAll g rs 0 Mod.ld0=some l∧∀ i,i < 3→Mod.okP (l.sh i) (g i)=true:=by
 unfold Mod.ldRes at h
 cases hl:Mod.ldAll g rs 0 Mod.ld0 with
 | none => rw [hl] at h;cases h
 | some l2 =>
  rw [hl] at h
  simp only at h
  split at h
  ·rename_i hk
   cases h
   refine ⟨rfl,fun i hi => ?_⟩
   obtain rfl | rfl | rfl:i=0 ∨ i=1 ∨ i=2:=by omega
   ·exact hk.1
   ·exact hk.2.1
   ·exact hk.2.2
  ·cases h
theorem ldRes_of {g:Nat→Nat} {rs:List Mod.Rc} {l:Mod.Ld} (h1:Mod.ldAll g rs 0 Mod.ld0=some l) (h2:∀ i,i < 3→Mod.okP (l.sh i) (g i)=true):Mod.ldRes g rs=some l:=by
 unfold Mod.ldRes
 rw [h1]
 simp only
 rw [if_pos ⟨h2 0 (by omega),h2 1 (by omega),h2 2 (by omega)⟩]
set_option maxHeartbeats 1000000 in
theorem cyOpen_of {w:World} (bs:Value) (L:List UInt8) (hat:BytesAt w bs L) (hlen:L.length=1664) {h:Mod.Hd} {at':Nat} {rs:List Mod.Rc} {l:Mod.Ld} (ho:Mod.openSt L=some (h,at',rs)) (hl:Mod.ldAll h.num rs 0 Mod.ld0=some l) (hk:∀ i,i < 3→Mod.okP (l.sh i) (h.num i)=true) :
  Calls Tryz.prog 21 #[bs] w fun r w' =>
   ∃ v U,r = .returned (.tuple #[ptrTo v,.int .i64 0])∧CyAt (h.o+1) 1 0 w' v (Mod.agOf h.o h.num l) U∧Below w.heap.size w w' ∧ ∀ k,U k→w.heap.size ≤ k:=by
 have HD:Hid (Calls Tryz.prog 49 #[bs] w fun r w' => ∃ p c,r = .returned (.tuple #[ptrTo p,.int .i64 0])∧PaAt w' p h.num 0 false false l.free (shOf l) (newStv L h at') c∧Below w.heap.size w w' ∧ ∀ k,PaU p c k→w.heap.size ≤ k):=by
  refine (agOpen_some w bs L hat hlen ho).mono ?_
  rintro r y (⟨h1,_⟩ | ⟨l2,p,c,e1,rfl,k1,k2,k3⟩)
  ·rw [ldRes_of hl hk] at h1;cases h1
  ·rw [ldRes_of hl hk] at e1
   injection e1 with e1
   subst e1
   exact ⟨p,c,rfl,k1,k2,k3⟩
 have HA:Hid (AlvA (h.o+1) 1 0 (newStv L h at') (Mod.agOf h.o h.num l) l.free (Mod.plOf l)):=⟨rfl,rfl,rfl,Nat.le_refl _,(Mod.agDisk_opened ho hl hk hlen).1⟩
 have HO:Hid (OnAg (Mod.agOf h.o h.num l) (newStv L h at').opening h.num l.free (shOf l) (Mod.plOf l)):=onAg_opened ho hl hk hlen
 have ht:(Mod.agOf h.o h.num l).ticks=0:=rfl
 have hw:(Mod.agOf h.o h.num l).welcome=false:=rfl
 have hf:(Mod.agOf h.o h.num l).fenced=false:=rfl
 clear hat ho hlen hl hk
 generalize Mod.agOf h.o h.num l=a at *
 generalize newStv L h at' = st at HD HA HO
 generalize h.o+1=op1 at HA ⊢
 generalize h.num=gn at HD HO
 generalize shOf l=shl at HD HO
 generalize Mod.plOf l=pll at HA HO
 generalize l.free=lf at HD HA HO
 have HF:=hide (And.intro ht (And.intro hw hf))
 clear ht hw hf
 unfold ptrTo at *
 go_enter Tryz.func21,Tryz.ntmps21
 go_wp2_with (go_at_call 49;refine (unhide HD).mono ?_;rintro r y ⟨p,c,rfl,K,hb,hU⟩;replace K:=hide K;replace hb:=hide hb;replace hU:=hide hU)
 go_ret2
 have hb:=unhide hb
 obtain ⟨ht,hw,hf⟩:=unhide HF
 refine ⟨y.heap.size,_,rfl,⟨p,_,_,_,_,st,c,heap_alloc_new _ _,?_,unhide HA,unhide HO,rfl⟩,hb.alloc hb.size _,?_⟩
 ·rw [ht,hw,hf]
  exact (unhide K).below ((Below.refl _ _).alloc (Nat.le_refl _) _)
 ·rintro k (rfl | hk)
  ·exact hb.size
  ·exact (unhide hU) k hk
end Go.Proofs.YtamafdcnbcoegabGreat
namespace Go.Proofs.YtamafdcnbcoegabGreat
open Go.RowKit
def RefusedA (L:List UInt8):Prop:=∀ (w:World) (bs:Value),BytesAt w bs L→Calls Tryz.prog 21 #[bs] w fun r w' => r = .returned (.tuple #[.pointer none,.int .i64 2])∧Below w.heap.size w w'
set_option maxHeartbeats 1000000 in
theorem cyOpen_no {w:World} (bs:Value) (HD:Calls Tryz.prog 49 #[bs] w fun r w' => r = .returned (.tuple #[.pointer none,.int .i64 2])∧Below w.heap.size w w') :
  Calls Tryz.prog 21 #[bs] w fun r w' => r = .returned (.tuple #[.pointer none,.int .i64 2])∧Below w.heap.size w w':=by
 have HD:=hide HD
 go_enter Tryz.func21,Tryz.ntmps21
 go_wp2_with (go_at_call 49;refine (unhide HD).mono ?_;rintro r y ⟨rfl,hb⟩;replace hb:=hide hb)
 go_ret2
 exact ⟨rfl,unhide hb⟩
theorem cyOpen_case (L:List UInt8):RefusedA L ∨ ∃ (h:Mod.Hd) (at':Nat) (rs:List Mod.Rc) (l:Mod.Ld),L.length=1664∧Mod.openSt L=some (h,at',rs)∧Mod.ldAll h.num rs 0 Mod.ld0=some l∧(∀ i,i < 3→Mod.okP (l.sh i) (h.num i)=true) ∧
  ∀ (w:World) (bs:Value),BytesAt w bs L→Calls Tryz.prog 21 #[bs] w fun r w' => ∃ (v:Nat) (U:Nat→Prop),r = .returned (.tuple #[ptrTo v,.int .i64 0])∧CyAt (h.o+1) 1 0 w' v (Mod.agOf h.o h.num l) U∧Below w.heap.size w w' ∧ ∀ k,U k→w.heap.size ≤ k:=by
 by_cases hlen:L.length=1664
 ·cases ho:Mod.openSt L with
  | none => exact .inl fun w bs hat => cyOpen_no bs (agOpen_bad w bs L hat hlen ho)
  | some q =>
   obtain ⟨h,at',rs⟩:=q
   cases hr:Mod.ldRes h.num rs with
   | none =>
    refine .inl fun w bs hat => cyOpen_no bs ((agOpen_some w bs L hat hlen ho).mono ?_)
    rintro r y (⟨_,k1,k2⟩ | ⟨l,p,c,e1,_⟩)
    ·exact ⟨k1,k2⟩
    ·rw [hr] at e1;cases e1
   | some l =>
    obtain ⟨k1,k2⟩:=ldRes_some hr
    exact .inr ⟨h,at',rs,l,hlen,rfl,k1,k2,fun w bs hat => cyOpen_of bs L hat hlen ho k1 k2⟩
 ·refine .inl fun w bs hat => cyOpen_no bs ((agOpen_len w bs L hat hlen).mono ?_)
  rintro r y ⟨h1,rfl⟩
  exact ⟨h1,Below.refl _ _⟩
section
variable {op ct n:Nat} {w:World} {v:Nat} {a:Mod.Ag} {U:Nat→Prop}
theorem cyAt_room (h:CyAt op ct n w v a U):a.room ≤ 24:=by
 obtain ⟨p,g,free,sh,pl,st,c,hb,H,hs,O,rfl⟩:=h
 have:=O.places.sum
 omega
set_option maxHeartbeats 1000000 in
theorem cySubmitB (i:Int) (s:ByteArray) (h:CyAt op ct n w v a U) (G:∀ i,i < 3→(a.fl i).base+(a.fl i).kept.length ≤ 1073741824) (hct:ct+1000 < 18446744073709551616) (hn:n ≠ 1) :
  Calls Tryz.prog 22 #[ptrTo v,.int .i64 i,.string s] w fun r w' =>
   ∃ U' n',r = .returned (.int .i64 (a.refuses i s.size))∧(n=0→n' = 0)∧CyAt op (ct+1) n' w' v (agSubmits a i s) U' ∧ Far U w w' ∧ ∀ k,U' k→U k ∨ w.heap.size ≤ k:=by
 obtain ⟨p,g,free,sh,pl,st,c,hb,H,hs,O,rfl⟩:=h
 have c0:w.cell? ⟨v,0,none⟩=some (ptrTo p):=blk_cell (i:=0) hb
 have hA:Calls Tryz.prog 50 #[ptrTo p,.int .i64 i,.string s] w fun r z => r = .returned (.int .i64 (a.refuses i s.size))∧∃ n',(n=0→n' = 0)∧AgIs2 op (ct+1) n' w z p (agSubmits a i s) c:=by
  unfold agSubmits
  by_cases h0:a.refuses i s.size=0
  ·rw [if_pos h0]
   obtain ⟨⟨h1,h2⟩,h3,h4⟩:=refuses_0 h0
   obtain ⟨m,rfl⟩:=Int.eq_ofNat_of_zero_le h1
   refine (agSubmit_ok2 H hs hct hn O (i:=m) (by omega) s h3 h4 (by have:=G m (by omega);omega)).mono ?_
   rintro r z ⟨rfl,h⟩
   exact ⟨by rw [h0],n - 1,by omega,h⟩
  ·rw [if_neg h0]
   refine (agSubmit_no2 H hs.dead O i s h0).mono ?_
   rintro r z ⟨rfl,rfl⟩
   exact ⟨rfl,n,id,g,free,sh,pl,st,paStep_refl H,⟨hs.dead,hs.arm,hs.op,Nat.le_succ_of_le hs.ct,hs.dk⟩,O⟩
 have HA:=hide hA
 have HB:=hide (And.intro hb (ca_not H hb))
 generalize agSubmits a i s=a2 at *
 generalize a.refuses i s.size=e at *
 clear H O hs hb hA
 unfold ptrTo at *
 go_enter Tryz.func22,Tryz.ntmps22
 go_wp2_with (go_at_call 50;refine (unhide HA).mono ?_;rintro r y ⟨rfl,n',k0,k1⟩;replace k1:=hide k1;replace k0:=hide k0)
 go_ret
 obtain ⟨U',h1,h2,h3⟩:=cyAt_is (unhide HB).1 (unhide HB).2 (unhide k1)
 exact ⟨U',n',rfl,unhide k0,h1,h2,h3⟩
end
theorem cyAgain_case {L:List UInt8} {op c2 hd:Nat} {a:Mod.Ag} {free:List Nat} {pl:Nat→List Nat} (D:Mod.AgDisk L op c2 hd a free pl) (P:Mod.Places a free pl) (he:a.epoch=op):RefusedA L ∨
  ∀ (w:World) (bs:Value),BytesAt w bs L→Calls Tryz.prog 21 #[bs] w fun r w' => ∃ (v:Nat) (U:Nat→Prop),r = .returned (.tuple #[ptrTo v,.int .i64 0])∧CyAt (op+1) 1 0 w' v (Mod.reop a) U∧Below w.heap.size w w' ∧ ∀ k,U k→w.heap.size ≤ k:=by
 rcases cyOpen_case L with h | ⟨h,at',rs,l,h1,h2,h3,h4,h5⟩
 ·exact .inl h
 ·obtain ⟨e1,e2⟩:=D.again P he h2 h3 h4
  rw [e2,e1] at h5
  exact .inr h5
end Go.Proofs.YtamafdcnbcoegabGreat
namespace Go.Proofs.YtamafdcnbcoegabGreat
open Go.RowKit
theorem sendTo_small (e s:Nat) (f:Mod.Flow) (t:Nat) (hb:∀ x ∈ f.kept,x.1.size ≤ 20):∀ i,(Mod.sendTo e s f t i).2.length ≤ i∧∀ l ∈ (Mod.sendTo e s f t i).2,l.length ≤ 35
 | 0 => ⟨Nat.le_refl _,fun l hl => by cases hl⟩
 | i+1 => by
  obtain ⟨h1,h2⟩:=sendTo_small e s f t hb i
  rw [Mod.sendTo]
  split
  ·exact ⟨by omega,h2⟩
  ·rename_i x hx
   split
   ·refine ⟨by simp;omega,fun l hl => ?_⟩
    rw [List.mem_append,List.mem_singleton] at hl
    rcases hl with hl | rfl
    ·exact h2 l hl
    ·have:=hb x (List.mem_of_getElem? hx)
     rw [Wire.length_bytes]
     simp
     omega
   ·exact ⟨by omega,h2⟩
theorem tick_small {N:Nat} {a:Mod.Ag} (G:AgGood N a):a.tick.2.length ≤ 12∧∀ l ∈ a.tick.2,l.length ≤ 35:=by
 unfold Mod.Ag.tick
 split
 ·exact ⟨by simp,fun l hl => by cases hl⟩
 ·split
  ·refine ⟨by simp,fun l hl => ?_⟩
   rw [List.mem_singleton] at hl
   rw [hl,Wire.length_bytes]
   simp
  ·have h:=fun s (hs:s < 3) => sendTo_small a.epoch s (a.fl s) (a.ticks+1) (fun x hx => (G.bod s hs x hx).1) 4
   have h0:=h 0 (by omega)
   have h1:=h 1 (by omega)
   have h2:=h 2 (by omega)
   simp only [Mod.sendOut,List.nil_append]
   refine ⟨by simp only [List.length_append];omega,fun l hl => ?_⟩
   rw [List.mem_append,List.mem_append] at hl
   rcases hl with (hl | hl) | hl
   ·exact h0.2 l hl
   ·exact h1.2 l hl
   ·exact h2.2 l hl
end Go.Proofs.YtamafdcnbcoegabGreat
namespace Go.Proofs.YtamafdcnbcoegabGreat
open Go.RowKit
theorem FramesOut.off {B:Nat} {w:World} {lv:Value} {fs:List Value} {Fl:List ByteArray} {U:Nat→Prop} (h:FramesOut B w lv fs Fl U):FramesOut B w lv fs Fl (fun _ => False):=⟨h.len,h.row,h.each,h.apart,fun _ _ e => e⟩
theorem skGood_says {a:Mod.Sk} (G:SkGood a) (l:List UInt8):SkGood (skSays a l).2.1:=by
 unfold skSays
 cases hr:Wire.reads l
 ·exact G
 ·rw [if_pos rfl]
  have hp:=hr
  unfold Wire.reads at hp
  rw [Bool.and_eq_true] at hp
  have hp2:=proper_small hp.2
  exact skGood_reply G _ _ _ _ _ (by have:=hp2.2.2.1;omega) hp2.2.1.2
theorem agGood_says {N:Nat} {a:Mod.Ag} (G:AgGood N a) (l:List UInt8):AgGood N (agSays a l).2:=by
 unfold agSays
 split
 ·exact agGood_deliver G _ _ _ _ _
 ·exact G
theorem agGood_submits {N:Nat} {a:Mod.Ag} (G:AgGood N a) (i:Int) (s:ByteArray):AgGood (N+1) (agSubmits a i s):=by
 unfold agSubmits
 split
 ·rename_i h
  exact agGood_submit G _ _ (refuses_0 h).2.1
 ·exact G.mono (Nat.le_succ _)
def Same (B:Nat) (G:Nat→Prop) (x y:World):Prop:=Far (fun j => B ≤ j∧¬ G j) x y
theorem Same.refl (B:Nat) (G:Nat→Prop) (x:World):Same B G x x:=Far.refl _ _
theorem Same.trans {B:Nat} {G G':Nat→Prop} {x y z:World} (h:Same B G x y) (h':Same B G' y z) (hG:∀ j,j < x.heap.size→G j→G' j):Same B G x z :=
 Far.trans h h' (fun j hj e => ⟨e.1,fun g => e.2 (hG j hj g)⟩)
theorem Same.bel {B:Nat} {G:Nat→Prop} {x y:World} (h:Same B G x y) (hB:B ≤ x.heap.size):Below B x y:=Far.below h hB (fun k hk e => by omega)
structure Ends {top:Nat} (C:AgentC top) (D:SinkC) (B N:Nat) (x:World) (va vs:Nat) (a:Mod.Ag) (k:Mod.Sk) (G:Nat→Prop):Prop where
 all:∃ (U V:Nat→Prop),C.At x va a U∧D.At x vs k V∧(∀ j,U j→¬ V j)∧(∀ j,U j→B ≤ j)∧(∀ j,V j→B ≤ j)∧(∀ j,G j→j < x.heap.size∧¬ U j∧¬ V j)
 ga:AgGood N a
 gk:SkGood k
 bx:B ≤ x.heap.size
section
variable {top:Nat} {C:AgentC top} {D:SinkC} {B N:Nat} {x y:World} {va vs:Nat} {a:Mod.Ag} {k:Mod.Sk} {G:Nat→Prop}
theorem Ends.far {E:Nat→Prop} (h:Ends C D B N x va vs a k G) (hF:Far E x y) (hE:∀ j,E j→G j ∨ j < B):Ends C D B N y va vs a k G:=by
 obtain ⟨U,V,h1,h2,h3,h4,h5,h6⟩:=h.all
 refine ⟨⟨U,V,C.far h1 hF (fun j hu e => ?_),D.far h2 hF (fun j hu e => ?_),h3,h4,h5,fun j hj => ⟨Nat.lt_of_lt_of_le (h6 j hj).1 hF.size,(h6 j hj).2⟩⟩,h.ga,h.gk,Nat.le_trans h.bx hF.size⟩
 ·rcases hE j e with e | e
  ·exact (h6 j e).2.1 hu
  ·have:=h4 j hu;omega
 ·rcases hE j e with e | e
  ·exact (h6 j e).2.2 hu
  ·have:=h5 j hu;omega
theorem Ends.below (h:Ends C D B N x va vs a k G) (hb:Below x.heap.size x y):Ends C D B N y va vs a k G:=h.far (E:=fun _ => False) (far_below hb) (fun _ e => e.elim)
theorem Ends.mono {G':Nat→Prop} {M:Nat} (h:Ends C D B N x va vs a k G) (hG:∀ j,G' j→G j) (hM:N ≤ M):Ends C D B M x va vs a k G':=by
 obtain ⟨U,V,h1,h2,h3,h4,h5,h6⟩:=h.all
 exact ⟨⟨U,V,h1,h2,h3,h4,h5,fun j hj => h6 j (hG j hj)⟩,h.ga.mono hM,h.gk,h.bx⟩
theorem Ends.more (h:Ends C D B N x va vs a k G) (hb:Below x.heap.size x y):Ends C D B N y va vs a k (fun j => G j ∨ (x.heap.size ≤ j∧j < y.heap.size)):=by
 have h':=h.below hb
 obtain ⟨U,V,h1,h2,h3,h4,h5,h6⟩:=h.all
 have hu:=C.lt h1
 have hv:=D.lt h2
 have F:Far (fun _ => False) x y:=far_below hb
 refine ⟨⟨U,V,C.far h1 F (fun _ _ e => e),D.far h2 F (fun _ _ e => e),h3,h4,h5,fun j hj => ?_⟩,h.ga,h.gk,h'.bx⟩
 rcases hj with hj | hj
 ·exact ⟨Nat.lt_of_lt_of_le (h6 j hj).1 hb.size,(h6 j hj).2⟩
 ·exact ⟨hj.2,fun e => by have:=hu j e;omega,fun e => by have:=hv j e;omega⟩
theorem Ends.submit (h:Ends C D B N x va vs a k G) (hN:N < top) (i:Int) (s:ByteArray) :
  Calls Tryz.prog 22 #[ptrTo va,.int .i64 i,.string s] x fun r y => r = .returned (.int .i64 (a.refuses i s.size))∧Ends C D B (N+1) y va vs (agSubmits a i s) k G∧Same B G x y:=by
 obtain ⟨U,V,h1,h2,h3,h4,h5,h6⟩:=h.all
 have hv:=D.lt h2
 refine (C.submit i s h1 h.ga hN).mono ?_
 rintro r y ⟨U',rfl,k1,k2,k3⟩
 have hsz:=k2.size
 have hu:=C.lt k1
 refine ⟨rfl,⟨⟨U',V,k1,D.far h2 k2 (fun j hj e => h3 j e hj),fun j hj e => ?_,fun j hj => ?_,h5,fun j hj => ⟨Nat.lt_of_lt_of_le (h6 j hj).1 hsz,fun e => ?_,(h6 j hj).2.2⟩⟩,agGood_submits h.ga i s,h.gk,Nat.le_trans h.bx hsz⟩,k2.mono (fun j _ e => ⟨h4 j e,fun g => (h6 j g).2.1 e⟩)⟩
 ·rcases k3 j hj with e' | e'
  ·exact h3 j e' e
  ·have:=hv j e;omega
 ·rcases k3 j hj with e' | e'
  ·exact h4 j e'
  ·have:=h.bx;omega
 ·rcases k3 j e with e' | e'
  ·exact (h6 j hj).2.1 e'
  ·have:=(h6 j hj).1;omega
theorem Ends.hear (h:Ends C D B N x va vs a k G) (hN:N < top) (bs:Value) (l:List UInt8) (hat:BytesAt x bs l) :
  Calls Tryz.prog 16 #[ptrTo va,bs] x fun r y => r = .returned (.int .i64 (agSays a l).1)∧Ends C D B N y va vs (agSays a l).2 k G∧Same B G x y:=by
 obtain ⟨U,V,h1,h2,h3,h4,h5,h6⟩:=h.all
 have hv:=D.lt h2
 refine (C.deliver bs l h1 h.ga hN hat).mono ?_
 rintro r y ⟨U',rfl,k1,k2,k3⟩
 have hsz:=k2.size
 have hu:=C.lt k1
 refine ⟨rfl,⟨⟨U',V,k1,D.far h2 k2 (fun j hj e => h3 j e hj),fun j hj e => ?_,fun j hj => ?_,h5,fun j hj => ⟨Nat.lt_of_lt_of_le (h6 j hj).1 hsz,fun e => ?_,(h6 j hj).2.2⟩⟩,agGood_says h.ga l,h.gk,Nat.le_trans h.bx hsz⟩,k2.mono (fun j _ e => ⟨h4 j e,fun g => (h6 j g).2.1 e⟩)⟩
 ·rcases k3 j hj with e' | e'
  ·exact h3 j e' e
  ·have:=hv j e;omega
 ·rcases k3 j hj with e' | e'
  ·exact h4 j e'
  ·have:=h.bx;omega
 ·rcases k3 j e with e' | e'
  ·exact (h6 j hj).2.1 e'
  ·have:=(h6 j hj).1;omega
theorem Ends.tick (h:Ends C D B N x va vs a k G) (hN:N < top) :
  Calls Tryz.prog 13 #[ptrTo va] x fun r y => ∃ lv fs,r = .returned lv∧FramesOut x.heap.size y lv fs (a.tick.2.map fun l => ⟨l.toArray⟩) (fun _ => False)∧Ends C D B (N+1) y va vs a.tick.1 k (fun j => G j ∨ Outs lv fs j)∧Same B G x y:=by
 obtain ⟨U,V,h1,h2,h3,h4,h5,h6⟩:=h.all
 have hv:=D.lt h2
 refine (C.tick h1 h.ga hN).mono ?_
 rintro r y ⟨lv,fs,U',rfl,hO,k1,k2,k3⟩
 have hsz:=k2.size
 have hu:=C.lt k1
 refine ⟨lv,fs,rfl,hO.off,⟨⟨U',V,k1,D.far h2 k2 (fun j hj e => h3 j e hj),fun j hj e => ?_,fun j hj => ?_,h5,fun j hj => ?_⟩,agGood_tick h.ga,h.gk,Nat.le_trans h.bx hsz⟩,k2.mono (fun j _ e => ⟨h4 j e,fun g => (h6 j g).2.1 e⟩)⟩
 ·rcases k3 j hj with e' | e'
  ·exact h3 j e' e
  ·have:=hv j e;omega
 ·rcases k3 j hj with e' | e'
  ·exact h4 j e'
  ·have:=h.bx;omega
 ·rcases hj with hj | hj
  ·refine ⟨Nat.lt_of_lt_of_le (h6 j hj).1 hsz,fun e => ?_,(h6 j hj).2.2⟩
   rcases k3 j e with e' | e'
   ·exact (h6 j hj).2.1 e'
   ·have:=(h6 j hj).1;omega
  ·have hl:=hO.lt j hj
   exact ⟨hl.2,hO.clear j hj,fun e => by have:=hv j e;omega⟩
theorem Ends.take (h:Ends C D B N x va vs a k G) (bs:Value) (l:List UInt8) (hat:BytesAt x bs l) :
  Calls Tryz.prog 15 #[ptrTo vs,bs] x fun r y => ∃ lv fs,r = .returned (.tuple #[lv,.int .i64 (skSays k l).1])∧FramesOut x.heap.size y lv fs (skSays k l).2.2 (fun _ => False)∧Ends C D B N y va vs a (skSays k l).2.1 (fun j => G j ∨ Outs lv fs j)∧Same B G x y:=by
 obtain ⟨U,V,h1,h2,h3,h4,h5,h6⟩:=h.all
 have hu:=C.lt h1
 refine (D.deliver bs l h2 h.gk hat).mono ?_
 rintro r y ⟨lv,fs,V',rfl,hO,k1,k2,k3⟩
 have hsz:=k2.size
 refine ⟨lv,fs,rfl,hO.off,⟨⟨U,V',C.far h1 k2 (fun j hj e => h3 j hj e),k1,fun j hj e => ?_,h4,fun j hj => ?_,fun j hj => ?_⟩,h.ga,skGood_says h.gk l,Nat.le_trans h.bx hsz⟩,k2.mono (fun j _ e => ⟨h5 j e,fun g => (h6 j g).2.2 e⟩)⟩
 ·rcases k3 j e with e' | e'
  ·exact h3 j hj e'
  ·have:=hu j hj;omega
 ·rcases k3 j hj with e' | e'
  ·exact h5 j e'
  ·have:=h.bx;omega
 ·rcases hj with hj | hj
  ·refine ⟨Nat.lt_of_lt_of_le (h6 j hj).1 hsz,(h6 j hj).2.1,fun e => ?_⟩
   rcases k3 j e with e' | e'
   ·exact (h6 j hj).2.2 e'
   ·have:=(h6 j hj).1;omega
  ·have hl:=hO.lt j hj
   exact ⟨hl.2,fun e => by have:=hu j e;omega,hO.clear j hj⟩
theorem Ends.spool (h:Ends C D B N x va vs a k G) (i:Int) :
  Calls Tryz.prog 18 #[ptrTo va,.int .i64 i] x fun r y => ∃ lv,r = .returned lv∧y.ownsRow x.heap.size 9 1 lv (agSpools a i).length (strs (agSpools a i))∧Ends C D B N y va vs a k (fun j => G j ∨ (x.heap.size ≤ j∧j < y.heap.size))∧Below x.heap.size x y:=by
 obtain ⟨U,V,h1,_⟩:=h.all
 refine (C.spool i h1).mono ?_
 rintro r y ⟨lv,rfl,k1,k2⟩
 exact ⟨lv,rfl,k1,h.more k2,k2⟩
theorem Ends.log (h:Ends C D B N x va vs a k G) (i:Int) :
  Calls Tryz.prog 17 #[ptrTo vs,.int .i64 i] x fun r y => ∃ lv,r = .returned lv∧y.ownsRow x.heap.size 9 1 lv (skLogs k i).length (strs (skLogs k i))∧Ends C D B N y va vs a k (fun j => G j ∨ (x.heap.size ≤ j∧j < y.heap.size))∧Below x.heap.size x y:=by
 obtain ⟨U,V,_,h2,_⟩:=h.all
 refine (D.log i h2 h.gk).mono ?_
 rintro r y ⟨lv,rfl,k1,k2⟩
 exact ⟨lv,rfl,k1,h.more k2,k2⟩
end
end Go.Proofs.YtamafdcnbcoegabGreat
namespace Go.Proofs.YtamafdcnbcoegabGreat
open Go.RowKit
set_option maxRecDepth 100000 in
set_option maxHeartbeats 1000000 in
theorem keepAgent_any {top:Nat} (C:AgentC top) (w:World) :
  Calls Tryz.prog 33 #[] w fun r y => ∃ v U,r = .returned (ptrTo v)∧C.At y v { epoch:=1,ticks:=0,welcome:=false,fenced:=false,fl:=fun _ => { base:=0,kept:=[],held:=[] } } U∧Below w.heap.size w y∧∀ j,U j→w.heap.size ≤ j:=by
 go_enter Tryz.func33,Tryz.ntmps33
 go_wp2_with (at_make;refine wp_make_full rfl _ _ rfl w.heap.size _ _ _ _ 1664 rfl rfl rfl rfl (by omega) (Nat.le_refl _) ?_;intro w1 hown1 hg1;have b1:=hide (below_grown_new (B:=w.heap.size) hg1 (Nat.le_refl _) (by simp));have HA:=hide (Owns.at hown1);clear hown1 hg1)
 refine (C.opened _ (unhide HA)).mono ?_
 rintro r y ⟨v,U,rfl,k1,k2,k3⟩
 have HK:=hide (And.intro k1 (And.intro k2 k3))
 clear k1 k2 k3
 unfold ptrTo
 go_wp2
 go_ret
 obtain ⟨k1,k2,k3⟩:=unhide HK
 have hb:=unhide b1
 exact ⟨v,U,rfl,k1,hb.trans (k2.mono hb.size),fun j hj => Nat.le_trans hb.size (k3 j hj)⟩
set_option maxRecDepth 100000 in
set_option maxHeartbeats 1000000 in
theorem keepSink_any (D:SinkC) (w:World) :
  Calls Tryz.prog 34 #[] w fun r y => ∃ v U,r = .returned (ptrTo v)∧D.At y v { epoch:=0,logs:=fun _ => [],held:=[] } U∧Below w.heap.size w y∧∀ j,U j→w.heap.size ≤ j:=by
 go_enter Tryz.func34,Tryz.ntmps34
 go_wp2_with (at_make;refine wp_make_full rfl _ _ rfl w.heap.size _ _ _ _ 7808 rfl rfl rfl rfl (by omega) (Nat.le_refl _) ?_;intro w1 hown1 hg1;have b1:=hide (below_grown_new (B:=w.heap.size) hg1 (Nat.le_refl _) (by simp));have HA:=hide (Owns.at hown1);clear hown1 hg1)
 refine (D.opened _ (unhide HA)).mono ?_
 rintro r y ⟨v,U,rfl,k1,k2,k3⟩
 have HK:=hide (And.intro k1 (And.intro k2 k3))
 clear k1 k2 k3
 unfold ptrTo
 go_wp2
 go_ret
 obtain ⟨k1,k2,k3⟩:=unhide HK
 have hb:=unhide b1
 exact ⟨v,U,rfl,k1,hb.trans (k2.mono hb.size),fun j hj => Nat.le_trans hb.size (k3 j hj)⟩
theorem str_eq_false {a b:ByteArray} (h:a ≠ b):(a.toList == b.toList)=false:=by
 rw [toList_data,toList_data]
 cases hc:(a.data.toList == b.data.toList) with
 | false => rfl
 | true =>
  rw [beq_iff_eq] at hc
  exact absurd (by cases a;cases b;simp at hc;rw [hc]) h
set_option maxRecDepth 100000 in
set_option maxHeartbeats 2000000 in
theorem keepSame_any (w:World) (v u:Value) (A B:List ByteArray) (hv:ListAt w v (strs A)) (hu:ListAt w u (strs B)) (hz:A.length ≤ 1000000000) :
  Calls Tryz.prog 19 #[v,u] w fun r y => r = .returned (.bool (decide (A=B)))∧∃ q,y=w.drewN q:=by
 obtain ⟨la,lc,hlv,hl1,hl2,hl3⟩:=hv
 obtain ⟨ma,mc,hmv,hm1,hm2,hm3⟩:=hu
 rw [strs_length] at hlv hl1 hl3 hmv hm1 hm3
 subst hlv hmv
 have HL3:=hide hl3
 have HM3:=hide hm3
 clear hl3 hm3
 by_cases hlen:A.length=B.length
 ·rw [← hlen] at HM3 hm1 ⊢
  have hne:((A.length:Int) != (A.length:Int))=false:=by simp
  go_enter Tryz.func19,Tryz.ntmps19
  go_wp2
  go_loopw [5] (fun i wr => ∃ k:Nat,k ≤ A.length∧i = .int .i64 k∧A.take k=B.take k∧∃ q,wr=w.drewN q) (fun i _ => A.length - (intOf i).toNat)
  case atStart => exact ⟨0,by omega,rfl,rfl,0,rfl⟩
  case round =>
   obtain ⟨k,hk,rfl,hAB,q,rfl⟩:=hrel
   by_cases hlt:k < A.length
   ·have hltB:k < B.length:=by omega
    obtain ⟨g,o,rfl,_,hc⟩:=(unhide HL3) (by omega)
    obtain ⟨g2,o2,rfl,_,hc2⟩:=(unhide HM3) (by omega)
    have hx:(strs A)[k]? = some (.string A[k]):=by simp [strs,hlt]
    have hx2:(strs B)[k]? = some (.string B[k]):=by simp [strs,hltB]
    have y1:=(hc k hlt).trans hx
    have y2:=(hc2 k hlt).trans hx2
    have HAB:=hide hAB
    have hak:Hid (A[k]? = some A[k]):=List.getElem?_eq_getElem hlt
    have hbk:Hid (B[k]? = some B[k]):=List.getElem?_eq_getElem hltB
    clear hc hc2 hx hx2 hAB
    generalize A[k] = ak at y1 hak
    generalize B[k] = bk at y2 hbk
    by_cases he:ak=bk
    ·subst he
     have hee:(ak.toList == ak.toList)=true:=beq_self_eq_true _
     go_wp2
     go_quiet (fail)
     go_wp2
     go_roundw
     case rel => exact ⟨k+1,by omega,by go_num,by rw [List.take_add_one,List.take_add_one,unhide HAB,unhide hak,unhide hbk],q+nq,by simp⟩
     case measure => simp [intOf];omega
    ·have hee:=str_eq_false he
     have hd:decide (A=B)=false:=by
      rw [decide_eq_false_iff_not]
      intro e
      have h1:=unhide hak
      rw [e,unhide hbk] at h1
      injection h1 with h1
      exact he h1.symm
     go_wp2
     go_quiet (fail)
     go_wp2
     go_ret
     exact ⟨by rw [hd];rfl,q+nq,by simp⟩
   ·have hd:decide (A=B)=true:=by
     rw [decide_eq_true_iff]
     rw [List.take_of_length_le (by omega),List.take_of_length_le (by omega)] at hAB
     exact hAB
    go_wp2
    go_ret
    exact ⟨by rw [hd];rfl,q,rfl⟩
 ·have hd:decide (A=B)=false:=by
   rw [decide_eq_false_iff_not]
   intro e
   exact hlen (by rw [e])
  have hne:((A.length:Int) != (B.length:Int))=true:=by simp;omega
  go_enter Tryz.func19,Tryz.ntmps19
  go_wp2
  go_ret
  exact ⟨by rw [hd];rfl,0,rfl⟩
end Go.Proofs.YtamafdcnbcoegabGreat
namespace Go.Proofs.YtamafdcnbcoegabGreat
open Go.RowKit
def hearM:Mod.Ag × Bool→List ByteArray→Mod.Ag × Bool
 | s,[] => s
 | s,b :: r => hearM ((agSays s.1 b.data.toList).2,s.2 && ((agSays s.1 b.data.toList).1 == 0)) r
def tellM:Mod.Ag × Mod.Sk × Bool→List (List UInt8)→Mod.Ag × Mod.Sk × Bool
 | s,[] => s
 | s,l :: r => tellM ((hearM (s.1,s.2.2 && ((skSays s.2.1 l).1 == 0)) (skSays s.2.1 l).2.2).1,(skSays s.2.1 l).2.1,(hearM (s.1,s.2.2 && ((skSays s.2.1 l).1 == 0)) (skSays s.2.1 l).2.2).2) r
def exchM (a:Mod.Ag) (k:Mod.Sk):Mod.Ag × Mod.Sk × Bool:=tellM (a.tick.1,k,true) a.tick.2
theorem hearM_snoc (s:Mod.Ag × Bool) (l:List ByteArray) (b:ByteArray):hearM s (l ++ [b])=((agSays (hearM s l).1 b.data.toList).2,(hearM s l).2 && ((agSays (hearM s l).1 b.data.toList).1 == 0)):=by
 induction l generalizing s with
 | nil => rfl
 | cons x r ih => exact ih _
theorem tellM_snoc (s:Mod.Ag × Mod.Sk × Bool) (l:List (List UInt8)) (b:List UInt8):tellM s (l ++ [b])=tellM (tellM s l) [b]:=by
 induction l generalizing s with
 | nil => rfl
 | cons x r ih => exact ih _
theorem FramesOut.get {B:Nat} {w:World} {lv:Value} {fs:List Value} {Fl:List ByteArray} {U:Nat→Prop} (h:FramesOut B w lv fs Fl U) (i:Nat) (hi:i < Fl.length):∃ v,fs[i]? = some v∧Owns B w v Fl[i].data.toList:=by
 have hl:=h.len
 have hi2:i < fs.length:=by omega
 refine ⟨fs[i],List.getElem?_eq_getElem hi2,?_⟩
 have:=h.each i fs[i] (List.getElem?_eq_getElem hi2)
 rw [List.getD_eq_getElem?_getD,List.getElem?_map,List.getElem?_eq_getElem hi] at this
 exact this
set_option maxRecDepth 100000 in
set_option maxHeartbeats 8000000 in
theorem exchange_any {top:Nat} (C:AgentC top) (D:SinkC) (B N:Nat) (x:World) (va vs:Nat) (a:Mod.Ag) (k:Mod.Sk) (G:Nat→Prop) (H:Ends C D B N x va vs a k G) (hN:N+1 < top) :
  Calls Tryz.prog 48 #[ptrTo va,ptrTo vs] x fun r y => r = .returned (.tuple #[.int .i64 a.tick.2.length,.bool (exchM a k).2.2])∧Ends C D B (N+1) y va vs (exchM a k).1 (exchM a k).2.1 G∧Same B G x y:=by
 have HT:=hide (H.tick (by omega))
 have hsm:=(tick_small H.ga).1
 have HB:=hide H.bx
 have HGX:=hide (fun j (hj:G j) => (H.all.elim fun _ h => h.elim fun _ h => (h.2.2.2.2.2 j hj).1))
 have hex:exchM a k=tellM (a.tick.1,k,true) a.tick.2:=rfl
 rw [hex]
 obtain ⟨FL,hFL⟩:∃ FL,FL=a.tick.2:=⟨_,rfl⟩
 rw [← hFL] at HT hsm ⊢
 generalize a.tick.1=a1 at HT ⊢
 clear H hex hFL
 unfold ptrTo at *
 go_enter Tryz.func48,Tryz.ntmps48
 go_upto_region 2 with (go_at_call 13;refine (unhide HT).mono ?_;rintro r y ⟨lv,fs,rfl,k1,k2,k3⟩;obtain ⟨ad,cap,e,_⟩:=(own_rowO k1.row).shape;rw [show fs.length=FL.length by rw [k1.len];simp] at e;subst e;have hzy:=k3.size;have HO:=hide k1;have HE:=hide k2;have HS:=hide k3;clear k1 k2 k3)
 go_wp2
 go_loopw [7,8,9,10,11,12] (fun ok i _ _ _ _ wr => ∃ j:Nat,j ≤ FL.length∧i = .int .i64 j∧ok = .bool (tellM (a1,k,true) (FL.take j)).2.2∧Ends C D B (N+1) wr va vs (tellM (a1,k,true) (FL.take j)).1 (tellM (a1,k,true) (FL.take j)).2.1 (fun q => G q ∨ Outs (.slice ad FL.length cap) fs q)∧Same B (fun q => G q ∨ Outs (.slice ad FL.length cap) fs q) y wr) (fun _ i _ _ _ _ _ => FL.length - (intOf i).toNat)
 case atStart => exact ⟨0,by omega,rfl,rfl,unhide HE,Same.refl _ _ _⟩
 case round =>
  obtain ⟨j,hj,rfl,rfl,hE,hS⟩:=hrel
  obtain ⟨aj,kj,okj,hT3⟩:∃ a k' o,tellM (a1,k,true) (FL.take j)=(a,k',o):=⟨_,_,_,rfl⟩
  rw [hT3] at hE ⊢
  by_cases hlt:j < FL.length
  ·have hO2:=(unhide HO).keep (fun q hq => hS.rest q ((unhide HO).lt q hq).2 (fun e => e.2 (.inr hq)))
   obtain ⟨v,hv,hown⟩:=hO2.get j (by simpa using hlt)
   simp only [List.getElem_map] at hown
   have hlf:fs.length=FL.length:=by rw [(unhide HO).len];simp
   have hrow:=hO2.row
   rw [hlf] at hrow
   have h0:0 < FL.length:=by omega
   obtain ⟨g,c2,hadd⟩:=own_shapeB hrow h0
   injection hadd with hadd _ hcc
   subst hadd
   subst hcc
   have cj:=World.ownsRow.cellAt hrow j (by omega)
   rw [hv] at cj
   obtain ⟨vad,vcap,ev,_⟩:=(own_rowO hown).shape
   rw [ev] at cj hown
   obtain ⟨nl,hnl⟩:∃ nl,nl=FL[j].length:=⟨_,rfl⟩
   have hTN:Hid (tellM (a1,k,true) (FL.take (j+1))=tellM (aj,kj,okj) [FL[j]]):=by
    show _=_
    rw [List.take_add_one,List.getElem?_eq_getElem hlt]
    show tellM _ (FL.take j ++ [FL[j]])=_
    rw [tellM_snoc,hT3]
   have hat:=Owns.at hown
   have HD:=hide (hE.take _ FL[j] (by simpa using hat))
   have htm:tellM (aj,kj,okj) [FL[j]] = ((hearM (aj,okj && ((skSays kj FL[j]).1 == 0)) (skSays kj FL[j]).2.2).1,(skSays kj FL[j]).2.1,(hearM (aj,okj && ((skSays kj FL[j]).1 == 0)) (skSays kj FL[j]).2.2).2):=rfl
   rw [htm] at hTN
   clear htm hat hown hv hrow
   have hFRl:(skSays kj FL[j]).2.2.length ≤ 1:=(skSays_small kj FL[j]).1
   generalize (skSays kj FL[j]).2.1=k2 at HD hTN
   generalize (skSays kj FL[j]).1=er at HD hTN
   generalize (skSays kj FL[j]).2.2=FR at HD hTN hFRl
   have HE1:=hide hE
   have HS1:=hide hS
   have HO1:=hide hO2
   have hgl:=(World.ownsRow.lt (unhide HO1).row g rfl).2
   have HJ:=hide (And.intro hlt hj)
   have hjn:(j:Int) < (FL.length:Int):=by omega
   have hj0:(0:Int) ≤ (j:Int):=by omega
   have hcl:FL.length ≤ cap:=by
    rcases (unhide HO1).row.2 with ⟨h,_⟩ | ⟨g',cap',cur,h,_,_,h2,_⟩
    ·cases h
    ·injection h with _ _ h3
     have:=(unhide HO1).len
     simp at this
     omega
   unfold ptrTo at HD
   generalize hfl:FL[j].length=fl at *
   have HFL:=hide hfl
   clear hfl
   cases okj with
   | false =>
    go_upto_region 7 with (go_at_call 15;refine (unhide HD).mono ?_;rintro r y1 ⟨lv2,fs2,rfl,k1,k2,k3⟩;obtain ⟨ad2,cap2,e,_⟩:=(own_rowO k1.row).shape;rw [k1.len] at e;subst e;have hzy2:=k3.size;have HO2:=hide k1;have HE2:=hide k2;have HS2:=hide k3;clear k1 k2 k3)
    go_upto_region 8 with fail
    simp only [Bool.false_and] at hTN
    clear HD cj hjn hj0
    go_wp2
    go_loopw [7,11,12] (fun ok i2 _ wr2 => ∃ j2:Nat,j2 ≤ FR.length∧i2 = .int .i64 j2∧ok = .bool (hearM (aj,false) (FR.take j2)).2∧Ends C D B (N+1) wr2 va vs (hearM (aj,false) (FR.take j2)).1 k2 (fun q => (G q ∨ Outs (.slice (some ⟨g,0,none⟩) FL.length cap) fs q) ∨ Outs (.slice ad2 FR.length cap2) fs2 q)∧Same B (fun q => (G q ∨ Outs (.slice (some ⟨g,0,none⟩) FL.length cap) fs q) ∨ Outs (.slice ad2 FR.length cap2) fs2 q) y1 wr2) (fun _ i2 _ _ => FR.length - (intOf i2).toNat)
    case atStart => exact ⟨0,by omega,rfl,rfl,unhide HE2,Same.refl _ _ _⟩
    case round =>
     obtain ⟨j2,hj2,rfl,rfl,hE3,hS3⟩:=hrel
     obtain ⟨a2,o2,hT2⟩:∃ a o,hearM (aj,false) (FR.take j2)=(a,o):=⟨_,_,rfl⟩
     rw [hT2] at hE3 ⊢
     by_cases hlt2:j2 < FR.length
     ·have hO3:=(unhide HO2).keep (fun q hq => hS3.rest q ((unhide HO2).lt q hq).2 (fun e => e.2 (.inr hq)))
      obtain ⟨v2,hv2,hown2⟩:=hO3.get j2 hlt2
      have hlf2:=(unhide HO2).len
      have hrow2:=hO3.row
      rw [hlf2] at hrow2
      have h02:0 < FR.length:=by omega
      obtain ⟨g2,c3,hadd2⟩:=own_shapeB hrow2 h02
      injection hadd2 with hadd2 _ hcc2
      subst hadd2
      subst hcc2
      have cj2:=World.ownsRow.cellAt hrow2 j2 (by omega)
      rw [hv2] at cj2
      obtain ⟨vad2,vcap2,ev2,_⟩:=(own_rowO hown2).shape
      rw [ev2] at cj2 hown2
      have hTN2:Hid (hearM (aj,false) (FR.take (j2+1))=((agSays a2 FR[j2].data.toList).2,o2 && ((agSays a2 FR[j2].data.toList).1 == 0))):=by
       show _=_
       rw [List.take_add_one,List.getElem?_eq_getElem hlt2]
       show hearM _ (FR.take j2 ++ [FR[j2]])=_
       rw [hearM_snoc,hT2]
      have hat2:=Owns.at hown2
      have HD2:=hide (hE3.hear hN _ FR[j2].data.toList hat2)
      generalize (agSays a2 FR[j2].data.toList).2=a3 at HD2 hTN2
      generalize (agSays a2 FR[j2].data.toList).1=er2 at HD2 hTN2
      have hgl2:=(World.ownsRow.lt hO3.row g2 rfl).2
      have hcl2:FR.length ≤ cap2:=by
       rcases hO3.row.2 with ⟨h,_⟩ | ⟨g',cap',cur,h,_,_,h2,_⟩
       ·cases h
       ·injection h with _ _ h3
        omega
      have hjn2:(j2:Int) < (FR.length:Int):=by omega
      have hj02:(0:Int) ≤ (j2:Int):=by omega
      have HE3:=hide hE3
      have HS3:=hide hS3
      clear hat2 hown2 hv2 hrow2 hE3 hS3 hO3 hT2 ev2 hlf2
      unfold ptrTo at HD2
      generalize hfl2:FR[j2].data.toList.length=fl2 at *
      have HFL2:=hide hfl2
      clear hfl2
      cases o2
      all_goals
       go_upto_region 12 with (go_at_call 16;refine (unhide HD2).mono ?_;rintro r y2 ⟨rfl,k1,k2⟩;have HE4:=hide k1;have HS4:=hide k2;clear k1 k2)
       simp only [Bool.false_and,Bool.true_and] at hTN2
       go_wp2
       go_roundw
       case rel => exact ⟨j2+1,by omega,by go_num,by rw [unhide hTN2],by rw [unhide hTN2];exact unhide HE4,(unhide HS3).trans (unhide HS4) (fun _ _ h => h)⟩
       case measure => simp [intOf];omega
     ·have hj2e:j2=FR.length:=by omega
      subst hj2e
      rw [List.take_length] at hT2
      rw [hT2] at hTN
      have HE3:=hide hE3
      have HS3:=hide hS3
      clear hE3 hS3 hT2
      go_wp2
      go_roundw
      case rel =>
       refine ⟨j+1,by have:=(unhide HJ).1;omega,by go_num,by rw [unhide hTN],by rw [unhide hTN];exact (unhide HE3).mono (fun q h => .inl h) (Nat.le_refl _),?_⟩
       exact ((unhide HS1).trans (unhide HS2) (fun _ _ h => h)).trans (unhide HS3) (fun _ _ h => .inl h)
      case measure =>
       have:=(unhide HJ).1
       simp [intOf]
       omega
   | true =>
    go_upto_region 7 with (go_at_call 15;refine (unhide HD).mono ?_;rintro r y1 ⟨lv2,fs2,rfl,k1,k2,k3⟩;obtain ⟨ad2,cap2,e,_⟩:=(own_rowO k1.row).shape;rw [k1.len] at e;subst e;have hzy2:=k3.size;have HO2:=hide k1;have HE2:=hide k2;have HS2:=hide k3;clear k1 k2 k3)
    go_upto_region 8 with fail
    simp only [Bool.true_and] at hTN
    obtain ⟨e0,he0⟩:∃ e0,e0=(er == 0):=⟨_,rfl⟩
    rw [← he0] at hTN
    rw [← he0]
    clear he0
    clear HD cj hjn hj0
    go_wp2
    go_loopw [7,11,12] (fun ok i2 _ wr2 => ∃ j2:Nat,j2 ≤ FR.length∧i2 = .int .i64 j2∧ok = .bool (hearM (aj,e0) (FR.take j2)).2∧Ends C D B (N+1) wr2 va vs (hearM (aj,e0) (FR.take j2)).1 k2 (fun q => (G q ∨ Outs (.slice (some ⟨g,0,none⟩) FL.length cap) fs q) ∨ Outs (.slice ad2 FR.length cap2) fs2 q)∧Same B (fun q => (G q ∨ Outs (.slice (some ⟨g,0,none⟩) FL.length cap) fs q) ∨ Outs (.slice ad2 FR.length cap2) fs2 q) y1 wr2) (fun _ i2 _ _ => FR.length - (intOf i2).toNat)
    case atStart => exact ⟨0,by omega,rfl,rfl,unhide HE2,Same.refl _ _ _⟩
    case round =>
     obtain ⟨j2,hj2,rfl,rfl,hE3,hS3⟩:=hrel
     obtain ⟨a2,o2,hT2⟩:∃ a o,hearM (aj,e0) (FR.take j2)=(a,o):=⟨_,_,rfl⟩
     rw [hT2] at hE3 ⊢
     by_cases hlt2:j2 < FR.length
     ·have hO3:=(unhide HO2).keep (fun q hq => hS3.rest q ((unhide HO2).lt q hq).2 (fun e => e.2 (.inr hq)))
      obtain ⟨v2,hv2,hown2⟩:=hO3.get j2 hlt2
      have hlf2:=(unhide HO2).len
      have hrow2:=hO3.row
      rw [hlf2] at hrow2
      have h02:0 < FR.length:=by omega
      obtain ⟨g2,c3,hadd2⟩:=own_shapeB hrow2 h02
      injection hadd2 with hadd2 _ hcc2
      subst hadd2
      subst hcc2
      have cj2:=World.ownsRow.cellAt hrow2 j2 (by omega)
      rw [hv2] at cj2
      obtain ⟨vad2,vcap2,ev2,_⟩:=(own_rowO hown2).shape
      rw [ev2] at cj2 hown2
      have hTN2:Hid (hearM (aj,e0) (FR.take (j2+1))=((agSays a2 FR[j2].data.toList).2,o2 && ((agSays a2 FR[j2].data.toList).1 == 0))):=by
       show _=_
       rw [List.take_add_one,List.getElem?_eq_getElem hlt2]
       show hearM _ (FR.take j2 ++ [FR[j2]])=_
       rw [hearM_snoc,hT2]
      have hat2:=Owns.at hown2
      have HD2:=hide (hE3.hear hN _ FR[j2].data.toList hat2)
      generalize (agSays a2 FR[j2].data.toList).2=a3 at HD2 hTN2
      generalize (agSays a2 FR[j2].data.toList).1=er2 at HD2 hTN2
      have hgl2:=(World.ownsRow.lt hO3.row g2 rfl).2
      have hcl2:FR.length ≤ cap2:=by
       rcases hO3.row.2 with ⟨h,_⟩ | ⟨g',cap',cur,h,_,_,h2,_⟩
       ·cases h
       ·injection h with _ _ h3
        omega
      have hjn2:(j2:Int) < (FR.length:Int):=by omega
      have hj02:(0:Int) ≤ (j2:Int):=by omega
      have HE3:=hide hE3
      have HS3:=hide hS3
      clear hat2 hown2 hv2 hrow2 hE3 hS3 hO3 hT2 ev2 hlf2
      unfold ptrTo at HD2
      generalize hfl2:FR[j2].data.toList.length=fl2 at *
      have HFL2:=hide hfl2
      clear hfl2
      cases o2
      all_goals
       go_upto_region 12 with (go_at_call 16;refine (unhide HD2).mono ?_;rintro r y2 ⟨rfl,k1,k2⟩;have HE4:=hide k1;have HS4:=hide k2;clear k1 k2)
       simp only [Bool.false_and,Bool.true_and] at hTN2
       go_wp2
       go_roundw
       case rel => exact ⟨j2+1,by omega,by go_num,by rw [unhide hTN2],by rw [unhide hTN2];exact unhide HE4,(unhide HS3).trans (unhide HS4) (fun _ _ h => h)⟩
       case measure => simp [intOf];omega
     ·have hj2e:j2=FR.length:=by omega
      subst hj2e
      rw [List.take_length] at hT2
      rw [hT2] at hTN
      have HE3:=hide hE3
      have HS3:=hide hS3
      clear hE3 hS3 hT2
      go_wp2
      go_roundw
      case rel =>
       refine ⟨j+1,by have:=(unhide HJ).1;omega,by go_num,by rw [unhide hTN],by rw [unhide hTN];exact (unhide HE3).mono (fun q h => .inl h) (Nat.le_refl _),?_⟩
       exact ((unhide HS1).trans (unhide HS2) (fun _ _ h => h)).trans (unhide HS3) (fun _ _ h => .inl h)
      case measure =>
       have:=(unhide HJ).1
       simp [intOf]
       omega
  ·have hje:j=FL.length:=by omega
   subst hje
   rw [List.take_length] at hT3
   have HE1:=hide hE
   have HS1:=hide hS
   clear hE hS
   go_wp2
   go_ret2
   exact ⟨rfl,(unhide HE1).mono (fun q h => .inl h) (Nat.le_refl _),(unhide HS).trans (unhide HS1) (fun _ _ h => .inl h)⟩
end Go.Proofs.YtamafdcnbcoegabGreat
namespace Go.Proofs.YtamafdcnbcoegabGreat
theorem agSays_bytes (a:Mod.Ag) {k:Int} {e s q:Nat} {b:ByteArray} (hp:Wire.proper k e s q b=true):agSays a (Wire.bytes k e s q b.data.toList)=(0,a.deliver k e s q b):=by
 obtain ⟨h1,h2,h3,h4,h5⟩:=proper_small hp
 obtain ⟨g0,g1,g2,g3,g4,g5⟩:=Wire.parts_bytes (k:=k) (e:=e) (s:=s) (q:=q) (b:=b) (by omega) (by omega) (by omega) (by omega) (by omega)
 refine agSays_yes ?_ g1 g2 g3 g4 g5
 unfold Wire.reads
 rw [g0,g1,g2,g3,g4,g5,hp]
 rfl
theorem skSays_bytes (a:Mod.Sk) {k:Int} {e s q:Nat} {b:ByteArray} (hp:Wire.proper k e s q b=true):skSays a (Wire.bytes k e s q b.data.toList)=(0,skReply a k e s q b):=by
 obtain ⟨h1,h2,h3,h4,h5⟩:=proper_small hp
 obtain ⟨g0,g1,g2,g3,g4,g5⟩:=Wire.parts_bytes (k:=k) (e:=e) (s:=s) (q:=q) (b:=b) (by omega) (by omega) (by omega) (by omega) (by omega)
 refine skSays_yes ?_ g1 g2 g3 g4 g5
 unfold Wire.reads
 rw [g0,g1,g2,g3,g4,g5,hp]
 rfl
end Go.Proofs.YtamafdcnbcoegabGreat
namespace Go.Proofs.YtamafdcnbcoegabGreat
open Go.RowKit
def RefusedS (L:List UInt8):Prop:=∀ (w:World) (bs:Value),BytesAt w bs L→Calls Tryz.prog 25 #[bs] w fun r w' => r = .returned (.tuple #[.pointer none,.int .i64 2])∧Below w.heap.size w w'
set_option maxHeartbeats 1000000 in
theorem cxOpen_no {w:World} (bs:Value) (HD:Calls Tryz.prog 53 #[bs] w fun r w' => r = .returned (.tuple #[.pointer none,.int .i64 2])∧Below w.heap.size w w') :
  Calls Tryz.prog 25 #[bs] w fun r w' => r = .returned (.tuple #[.pointer none,.int .i64 2])∧Below w.heap.size w w':=by
 have HD:=hide HD
 go_enter Tryz.func25,Tryz.ntmps25
 go_wp2_with (go_at_call 53;refine (unhide HD).mono ?_;rintro r y ⟨rfl,hb⟩;replace hb:=hide hb)
 go_ret2
 exact ⟨rfl,unhide hb⟩
theorem cxOpen_case (L:List UInt8):RefusedS L ∨ ∃ (h:Mod.Hd) (at':Nat) (rs:List Mod.Rc) (lg:Nat→List ByteArray),L.length=7808∧Mod.openSt L=some (h,at',rs)∧Mod.skLd rs 0 (fun _ => [])=some lg ∧
  ∀ (w:World) (bs:Value),BytesAt w bs L→Calls Tryz.prog 25 #[bs] w fun r w' => ∃ (v:Nat) (U:Nat→Prop),r = .returned (.tuple #[ptrTo v,.int .i64 0])∧CxAt (h.o+1) 1 0 w' v { epoch:=h.a,logs:=lg,held:=[] } U∧Below w.heap.size w w' ∧ ∀ k,U k→w.heap.size ≤ k:=by
 by_cases hlen:L.length=7808
 ·cases ho:Mod.openSt L with
  | none => exact .inl fun w bs hat => cxOpen_no bs (sinkOpen_bad w bs L hat hlen ho)
  | some q =>
   obtain ⟨h,at',rs⟩:=q
   by_cases hz:h.b=0∧h.d=0
   ·cases hr:Mod.skLd rs 0 (fun _ => []) with
    | none =>
     refine .inl fun w bs hat => cxOpen_no bs ((sinkOpen_some w bs L hat hlen ho).mono ?_)
     rintro r y (⟨_,k1,k2⟩ | ⟨_,_,l,p,c,e1,_⟩)
     ·exact ⟨k1,k2⟩
     ·rw [hr] at e1;cases e1
    | some l => exact .inr ⟨h,at',rs,l,hlen,rfl,hr,fun w bs hat => cxOpen_of bs L hat hlen ho hz.1 hz.2 hr⟩
   ·refine .inl fun w bs hat => cxOpen_no bs ((sinkOpen_some w bs L hat hlen ho).mono ?_)
    rintro r y (⟨_,k1,k2⟩ | ⟨e1,e2,_⟩)
    ·exact ⟨k1,k2⟩
    ·exact absurd ⟨e1,e2⟩ hz
 ·refine .inl fun w bs hat => cxOpen_no bs ((sinkOpen_len w bs L hat hlen).mono ?_)
  rintro r y ⟨h1,rfl⟩
  exact ⟨h1,Below.refl _ _⟩
theorem cxAgain_case {L:List UInt8} {op c2 hd e:Nat} {lg:Nat→List ByteArray} (D:Mod.SkDisk L op c2 hd e lg):RefusedS L ∨
  ∃ op2:Nat,∀ (w:World) (bs:Value),BytesAt w bs L→Calls Tryz.prog 25 #[bs] w fun r w' => ∃ (v:Nat) (U:Nat→Prop),r = .returned (.tuple #[ptrTo v,.int .i64 0])∧CxAt op2 1 0 w' v { epoch:=e,logs:=lg,held:=[] } U∧Below w.heap.size w w' ∧ ∀ k,U k→w.heap.size ≤ k:=by
 rcases cxOpen_case L with h | ⟨h,at',rs,lg2,h1,h2,h3,h5⟩
 ·exact .inl h
 ·obtain ⟨e1,e2⟩:=D.again h2 h3
  rw [e2,e1] at h5
  exact .inr ⟨_,h5⟩
theorem cxAt_good {op ct n:Nat} {w:World} {v e:Nat} {lg:Nat→List ByteArray} {U:Nat→Prop} (h:CxAt op ct n w v { epoch:=e,logs:=lg,held:=[] } U):SkGood { epoch:=e,logs:=lg,held:=[] }:=by
 obtain ⟨L,c2,hd,D,_⟩:=cxImg h
 obtain ⟨ord,o1,o2,_⟩:=D.rcs
 exact ⟨fun h hh => by simp at hh,by simp,o2,by have:=D.ok.sm 0 (by omega);simpa using this⟩
def newB:ByteArray:=⟨#[110,101,119]⟩
theorem new_proper {e q:Nat} (he:e ≤ 2147483647) (h1:1 ≤ q) (hq:q ≤ 2147483647):Wire.proper 3 e 1 q newB=true:=by
 have:newB.size=3:=rfl
 simp [Wire.proper,Wire.isNum,Wire.isStr,this]
 omega
theorem new_logs {e:Nat} {lg:Nat→List ByteArray} (q:Nat) (hq:q=(lg 1).length+1) :
  ∃ a2,skReply { epoch:=e,logs:=lg,held:=[] } 3 e 1 q newB=(a2,[skAck { epoch:=e,logs:=lg,held:=[] } 3 e 1 q newB])∧a2.epoch=e∧a2.logs 1=if (lg 0).length+(lg 1).length+(lg 2).length < 120 then lg 1 ++ [newB] else lg 1:=by
 refine ⟨skAfter { epoch:=e,logs:=lg,held:=[] } 3 e 1 q newB,?_,?_,?_⟩
 ·unfold skReply
  rw [if_neg (by omega),if_pos rfl,if_pos rfl]
 ·unfold skAfter
  split
  ·unfold holdIt;split <;> rfl
  ·rfl
 ·have hc:Mod.Sk.commits { epoch:=e,logs:=lg,held:=[] } 3 e (1:Nat) q newB=if 120 ≤ (lg 0).length+(lg 1).length+(lg 2).length then [] else [newB]:=by
   unfold Mod.Sk.commits
   rw [if_neg (by subst hq;simp)]
   show (if 120 ≤ (lg 0).length+(lg 1).length+(lg 2).length then _ else _)=_
   split
   ·rfl
   ·rw [Mod.Sk.commitFrom]
    split
    ·rfl
    ·rfl
  unfold skAfter
  rw [hc]
  by_cases h120:120 ≤ (lg 0).length+(lg 1).length+(lg 2).length
  ·rw [if_pos h120,if_pos rfl,if_neg (by omega),holdIt_logs]
  ·rw [if_neg h120,if_neg (by simp),if_pos (by omega),takeIt_logs]
end Go.Proofs.YtamafdcnbcoegabGreat
namespace Go.Proofs.YtamafdcnbcoegabGreat
open Go.RowKit
def AnyA (B c d op ct:Nat) (x:World) (v:Nat) (a:Mod.Ag):Prop:=∃ U,CyAt op ct 0 x v a U∧∀ k,U k→B ≤ k∧(k < c ∨ d ≤ k)
def AnyS (B c d op ct:Nat) (x:World) (v:Nat) (a:Mod.Sk):Prop:=∃ U,CxAt op ct 0 x v a U∧∀ k,U k→B ≤ k∧(k < c ∨ d ≤ k)
section
variable {B c d op ct:Nat} {x y:World} {v:Nat} {a:Mod.Ag}
theorem AnyA.write {E:Nat→Prop} (h:AnyA B c d op ct x v a) (hf:Far E x y) (hE:∀ k,E k→c ≤ k∧k < d):AnyA B c d op ct y v a:=by
 obtain ⟨U,h1,h2⟩:=h
 exact ⟨U,cyAt_far h1 hf (fun k hk e => by have:=hE k e;have:=h2 k hk;omega),h2⟩
theorem AnyA.below (h:AnyA B c d op ct x v a) (hb:Below x.heap.size x y):AnyA B c d op ct y v a:=h.write (E:=fun _ => False) (far_below hb) (fun _ e => e.elim)
theorem AnyA.gap (h:AnyA B c d op ct x v a) (m:Nat):AnyA B x.heap.size m op ct x v a:=by
 obtain ⟨U,h1,h2⟩:=h
 exact ⟨U,h1,fun k hk => ⟨(h2 k hk).1,.inl (cyAt_lt h1 k hk)⟩⟩
theorem AnyA.spool (i:Int) (h:AnyA B c d op ct x v a):Calls Tryz.prog 18 #[ptrTo v,.int .i64 i] x fun r y =>
  ∃ lv,r = .returned lv∧y.ownsRow x.heap.size 9 1 lv (agSpools a i).length (strs (agSpools a i))∧Below x.heap.size x y:=by
 obtain ⟨U,h1,h2⟩:=h
 exact caSpool_any i (cyAt_plain h1)
theorem AnyA.epoch (h:AnyA B c d op ct x v a):Calls Tryz.prog 24 #[ptrTo v] x fun r y => r = .returned (.int .i64 a.epoch)∧Below x.heap.size x y:=by
 obtain ⟨U,h1,h2⟩:=h
 exact caEpoch_any (cyAt_plain h1)
theorem AnyA.submit (h:AnyA B c d op ct x v a) (i:Int) (s:ByteArray) (G:∀ i,i < 3→(a.fl i).base+(a.fl i).kept.length ≤ 1073741824) (hct:ct+1000 < 18446744073709551616) (hd:d ≤ x.heap.size) (hB:B ≤ x.heap.size) :
  Calls Tryz.prog 22 #[ptrTo v,.int .i64 i,.string s] x fun r y => r = .returned (.int .i64 (a.refuses i s.size))∧AnyA B c d op (ct+1) y v (agSubmits a i s)∧Far (fun k => B ≤ k∧(k < c ∨ d ≤ k)) x y:=by
 obtain ⟨U,h1,h2⟩:=h
 refine (cySubmitB i s h1 G hct (by omega)).mono ?_
 rintro r y ⟨U',n',rfl,e0,k1,k2,k3⟩
 rw [e0 rfl] at k1
 refine ⟨rfl,⟨U',k1,fun k hk => ?_⟩,k2.mono (fun k hk => h2 k)⟩
 rcases k3 k hk with e | e
 ·exact h2 k e
 ·exact ⟨by omega,.inr (by omega)⟩
theorem AnyA.img (h:AnyA B c d op ct x v a):a.epoch=op∧∃ (L:List UInt8) (c2 hd:Nat) (free:List Nat) (pl:Nat→List Nat),Mod.AgDisk L op c2 hd a free pl∧Mod.Places a free pl∧∀ z,Below x.heap.size x z→∀ keep:Int,
  Calls Tryz.prog 23 #[ptrTo v,.int .u64 keep] z fun r y => ∃ v',r = .returned v' ∧ Owns z.heap.size y v' L∧Below z.heap.size z y:=by
 obtain ⟨U,h1,h2⟩:=h
 exact ⟨cyAt_ep h1,cyImg h1⟩
theorem AnyA.room (h:AnyA B c d op ct x v a):a.room ≤ 24:=by
 obtain ⟨U,h1,h2⟩:=h
 exact cyAt_room h1
end
section
variable {B c d op ct:Nat} {x y:World} {v:Nat} {a:Mod.Sk}
theorem AnyS.write {E:Nat→Prop} (h:AnyS B c d op ct x v a) (hf:Far E x y) (hE:∀ k,E k→c ≤ k∧k < d):AnyS B c d op ct y v a:=by
 obtain ⟨U,h1,h2⟩:=h
 exact ⟨U,cxAt_far h1 hf (fun k hk e => by have:=hE k e;have:=h2 k hk;omega),h2⟩
theorem AnyS.below (h:AnyS B c d op ct x v a) (hb:Below x.heap.size x y):AnyS B c d op ct y v a:=h.write (E:=fun _ => False) (far_below hb) (fun _ e => e.elim)
theorem AnyS.gap (h:AnyS B c d op ct x v a) (m:Nat):AnyS B x.heap.size m op ct x v a:=by
 obtain ⟨U,h1,h2⟩:=h
 exact ⟨U,h1,fun k hk => ⟨(h2 k hk).1,.inl (cxAt_lt h1 k hk)⟩⟩
theorem AnyS.log (i:Int) (h:AnyS B c d op ct x v a):Calls Tryz.prog 17 #[ptrTo v,.int .i64 i] x fun r y =>
  ∃ lv,r = .returned lv∧y.ownsRow x.heap.size 9 1 lv (skLogs a i).length (strs (skLogs a i))∧Below x.heap.size x y:=by
 obtain ⟨U,h1,h2⟩:=h
 exact cxLog i h1
theorem AnyS.epoch (h:AnyS B c d op ct x v a):Calls Tryz.prog 27 #[ptrTo v] x fun r y => r = .returned (.int .i64 a.epoch)∧y=x:=by
 obtain ⟨U,h1,h2⟩:=h
 exact cxEpoch h1
theorem AnyS.deliver (h:AnyS B c d op ct x v a) (bs:Value) (l:List UInt8) (hct:ct+1000 < 18446744073709551616) (G:SkGood a) (hat:BytesAt x bs l) (hd:d ≤ x.heap.size) (hB:B ≤ x.heap.size) :
  Calls Tryz.prog 15 #[ptrTo v,bs] x fun r y => ∃ lv,r = .returned (.tuple #[lv,.int .i64 (skSays a l).1])∧(∃ ad n cap,lv = .slice ad n cap)∧AnyS B c d op (ct+skW a l) y v (skSays a l).2.1∧Far (fun k => B ≤ k∧(k < c ∨ d ≤ k)) x y:=by
 obtain ⟨U,h1,h2⟩:=h
 refine (cxDeliver_ok bs l h1 hct G hat (.inl rfl)).mono ?_
 rintro r y ⟨lv,fs,U',rfl,k0,k1,k2,k3⟩
 obtain ⟨ad,cap,e,_⟩:=(own_rowO k0.row).shape
 rw [show 0 - skW a l=0 from by omega] at k1
 refine ⟨lv,rfl,⟨ad,_,cap,e⟩,⟨U',k1,fun k hk => ?_⟩,k2.mono (fun k hk => h2 k)⟩
 rcases k3 k hk with e | e
 ·exact h2 k e
 ·exact ⟨by omega,.inr (by omega)⟩
theorem AnyS.img (h:AnyS B c d op ct x v a):∃ (L:List UInt8) (c2 hd:Nat),Mod.SkDisk L op c2 hd a.epoch a.logs∧∀ z,Below x.heap.size x z→∀ keep:Int,
  Calls Tryz.prog 28 #[ptrTo v,.int .u64 keep] z fun r y => ∃ v',r = .returned v' ∧ Owns z.heap.size y v' L∧Below z.heap.size z y:=by
 obtain ⟨U,h1,h2⟩:=h
 exact cxImg h1
theorem AnyS.good {e:Nat} {lg:Nat→List ByteArray} (h:AnyS B c d op ct x v { epoch:=e,logs:=lg,held:=[] }):SkGood { epoch:=e,logs:=lg,held:=[] }:=by
 obtain ⟨U,h1,h2⟩:=h
 exact cxAt_good h1
end
def spN (f:Int→List ByteArray):Nat→Nat
 | 0 => 0
 | k+1 => spN f k+(f k).length
theorem spN_ag (a:Mod.Ag):spN (agSpools a) 3=a.room:=by
 simp [spN,agSpools,Mod.Ag.spool,Mod.Ag.room]
theorem spN_sk (a:Mod.Sk):spN (skLogs a) 3=a.count:=by
 simp [spN,skLogs,Mod.Sk.count]
theorem spN_le (f:Int→List ByteArray) {k:Nat} (h:k ≤ 3):spN f k ≤ spN f 3:=by
 obtain rfl | rfl | rfl | rfl:k=0 ∨ k=1 ∨ k=2 ∨ k=3:=by omega
 all_goals
  simp only [spN]
  omega
theorem any_app {b:Nat} {x z:World} {wv v':Value} {o:Obj} (hW:∀ q,wv.ownBlock=some q→b ≤ q) (ha:App (x.alloc o) z wv v'):Far (fun q => wv.ownBlock=some q) x z∧∀ q,v'.ownBlock=some q→b ≤ q ∨ x.heap.size ≤ q:=by
 have hal:Below x.heap.size x (x.alloc o):=(Below.refl _ _).alloc (Nat.le_refl _) _
 refine ⟨(far_below (E:=fun q => wv.ownBlock=some q) hal).trans (far_grown ha.grown) (fun _ _ h => h),fun q hq => ?_⟩
 rcases ha.where_ with e | ⟨_,g,e,hg⟩
 ·rw [e] at hq
  exact .inl (hW q hq)
 ·rw [e] at hq
  injection hq with hq
  have:=hal.size
  exact .inr (by omega)
theorem AnyS.next {B c d op ct:Nat} {x:World} {v e q:Nat} {lg:Nat→List ByteArray} (h:AnyS B c d op ct x v { epoch:=e,logs:=lg,held:=[] }) (hq:q=(lg 1).length+1) (hq2:q ≤ 2147483647) (bs:Value) (hat:BytesAt x bs (Wire.bytes 3 e (1:Nat) q newB.data.toList)) (hct:ct+1000 < 18446744073709551616) (hd:d ≤ x.heap.size) (hB:B ≤ x.heap.size) :
  ∃ a2:Mod.Sk,a2.epoch=e∧a2.logs 1=(if spN (skLogs { epoch:=e,logs:=lg,held:=[] }) 3 < 120 then lg 1 ++ [newB] else lg 1)∧Calls Tryz.prog 15 #[ptrTo v,bs] x fun r y => ∃ lv,r = .returned (.tuple #[lv,.int .i64 0])∧(∃ ad n cap,lv = .slice ad n cap)∧(∃ ct2,AnyS B c d op ct2 y v a2)∧Far (fun k => B ≤ k∧(k < c ∨ d ≤ k)) x y:=by
 have G:=h.good
 obtain ⟨a2,e1,e2,e3⟩:=new_logs (e:=e) (lg:=lg) q hq
 have hs:=skSays_bytes { epoch:=e,logs:=lg,held:=[] } (k:=3) (e:=e) (s:=1) (q:=q) (b:=newB) (new_proper G.ep (by omega) hq2)
 refine ⟨a2,e2,by rw [e3,spN_sk];rfl,(h.deliver bs _ hct G hat hd hB).mono ?_⟩
 rintro r y ⟨lv,rfl,k0,k1,k2⟩
 have s1:(skSays { epoch:=e,logs:=lg,held:=[] } (Wire.bytes 3 e (1:Nat) q newB.data.toList)).1=0:=by rw [hs]
 have s2:(skSays { epoch:=e,logs:=lg,held:=[] } (Wire.bytes 3 e (1:Nat) q newB.data.toList)).2.1=a2:=by
  rw [hs]
  show (skReply _ 3 (e:Int) 1 q newB).1=a2
  rw [e1]
 rw [s2] at k1
 exact ⟨lv,by rw [s1],k0,⟨_,k1⟩,k2⟩
theorem any_submits {a:Mod.Ag} (h:a.room ≤ 24):(a.room < 24→a.refuses 2 newB.size=0∧agSpools (agSubmits a 2 newB) 2=agSpools a 2 ++ [newB])∧(a.room=24→a.refuses 2 newB.size=7∧agSpools (agSubmits a 2 newB) 2=agSpools a 2)∧(agSubmits a 2 newB).epoch=a.epoch:=by
 have hz:newB.size=3:=rfl
 have h0:a.room < 24→a.refuses 2 newB.size=0:=fun hr => by
  unfold Mod.Ag.refuses
  rw [if_neg (by omega),if_neg (by omega),if_neg (by omega)]
 have h7:a.room=24→a.refuses 2 newB.size=7:=fun hr => by
  unfold Mod.Ag.refuses
  rw [if_neg (by omega),if_neg (by omega),if_pos (by omega)]
 refine ⟨fun hr => ⟨h0 hr,?_⟩,fun hr => ⟨h7 hr,?_⟩,?_⟩
 ·unfold agSubmits
  rw [if_pos (h0 hr)]
  simp [agSpools,Mod.Ag.spool,Mod.Ag.submit,Mod.upd]
 ·unfold agSubmits
  rw [h7 hr,if_neg (by decide)]
 ·unfold agSubmits
  split <;> rfl
theorem listAt_len {B n:Nat} {w:World} {v:Value} {l:List ByteArray} (h:w.ownsRow B 9 1 v n (strs l)) (hn:n=l.length):ListAt w v (strs l):=by
 subst hn
 rw [← strs_length l] at h
 exact listAt_own h
theorem spN_one (lg:Nat→List ByteArray) (e:Nat):(lg 1).length ≤ spN (skLogs { epoch:=e,logs:=lg,held:=[] }) 3:=by
 rw [spN_sk]
 simp only [Mod.Sk.count]
 omega
end Go.Proofs.YtamafdcnbcoegabGreat
namespace Go.Proofs.YtamafdcnbcoegabGreat
def sk00:Mod.Sk:={ epoch:=0,logs:=fun _ => [],held:=[] }
end Go.Proofs.YtamafdcnbcoegabGreat
namespace Go.Proofs.YtamafdcnbcoegabGreat
open Go.RowKit
theorem agGood_zero (n:Nat):AgGood n ag0:=⟨by simp [ag0],by simp [ag0],by simp [ag0],fun s hs x hx => by simp [ag0] at hx⟩
end Go.Proofs.YtamafdcnbcoegabGreat
namespace Go.Proofs.YtamafdcnbcoegabGreat
open Go.RowKit
section
variable {top:Nat} {C:AgentC top} {D:SinkC} {B i:Nat} {x y:World} {va vs g:Nat} {xs:Nat→Nat} {wv:Nat→Value}
end
def exN (a:Mod.Ag) (k:Mod.Sk):Nat→Mod.Ag × Mod.Sk
 | 0 => (a,k)
 | j+1 => ((exchM (exN a k j).1 (exN a k j).2).1,(exchM (exN a k j).1 (exN a k j).2).2.1)
theorem exN_succ (a:Mod.Ag) (k:Mod.Sk) (j:Nat):exN a k (j+1)=((exchM (exN a k j).1 (exN a k j).2).1,(exchM (exN a k j).1 (exN a k j).2).2.1):=rfl
end Go.Proofs.YtamafdcnbcoegabGreat
namespace Go.Proofs.YtamafdcnbcoegabGreat
def kn0:Mod.Ag:=agSubmits (agSubmits { epoch:=1,ticks:=0,welcome:=false,fenced:=false,fl:=fun _ => { base:=0,kept:=[],held:=[] } } 1 ⟨#[120]⟩) 1 ⟨#[121]⟩
theorem kn_ok:∀ j,j < 3→(exchM (exN kn0 sk00 j).1 (exN kn0 sk00 j).2).2.2=true:=by decide +kernel
theorem kn_spool:agSpools (exN kn0 sk00 3).1 1 = []:=by decide +kernel
theorem kn_ref:(exN kn0 sk00 3).1.refuses 1 1=0:=by decide +kernel
theorem kn_more:agSpools (agSubmits (exN kn0 sk00 3).1 1 ⟨#[122]⟩) 1 = [⟨#[122]⟩]:=by decide +kernel
end Go.Proofs.YtamafdcnbcoegabGreat
