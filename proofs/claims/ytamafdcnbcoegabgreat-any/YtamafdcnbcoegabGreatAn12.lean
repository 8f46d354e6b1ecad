/-
  Part 12 of a proof: L7, L8, L9, L10, L11.
-/
import Derived.Test.YtamafdcnbcoegabGreatAn11
namespace Go.Proofs.YtamafdcnbcoegabGreat
open Go.RowKit
section
variable {w:World} {p:Nat} {g:Nat→Nat} {free:List Nat} {sh:Nat→List (Nat × Value)} {st:Mod.Stv} {c:Av} {a:Mod.Ag} {pl:Nat→List Nat}
set_option maxRecDepth 100000 in
set_option maxHeartbeats 2000000 in
theorem letGo_same (H:PaAt w p g a.ticks a.welcome a.fenced free sh st c) (X:Nat→Nat) (hX:∀ i,i < 3→X i=g i) :
  Calls Tryz.prog 117 #[ptrTo p,.agg #[.int .i64 (X 0),.int .i64 (X 1),.int .i64 (X 2)]] w fun r z => r = .returned (.int .i64 0)∧Below w.heap.size w z:=by
 have g0:w.cell? ⟨p,1,none⟩=some (.int .i64 (X 0)):=by rw [blk_cell H.ks.blk,hX 0 (by omega)];exact H.ks.ag 0 (by omega)
 have g1:w.cell? ⟨p,2,none⟩=some (.int .i64 (X 1)):=by rw [blk_cell H.ks.blk,hX 1 (by omega)];exact H.ks.ag 1 (by omega)
 have g2:w.cell? ⟨p,3,none⟩=some (.int .i64 (X 2)):=by rw [blk_cell H.ks.blk,hX 2 (by omega)];exact H.ks.ag 2 (by omega)
 have hpl:=lt_of_block H.ks.blk
 generalize X 0=x0 at *
 generalize X 1=x1 at *
 generalize X 2=x2 at *
 have hcmp:∀ z:World,(Op.equalIn 10000 100 (.agg #[.int .i64 x0,.int .i64 x1,.int .i64 x2]) (.agg #[.int .i64 x0,.int .i64 x1,.int .i64 x2])).run Tryz.prog z = .ok true z:=fun z => by
  rw [eq_nums];simp
 clear H hX
 unfold ptrTo
 go_enter Tryz.func117,Tryz.ntmps117
 go_upto_region 1 with fail
 refine wp_world (fun x => x.heap[w.heap.size]? = some (.cells #[.int .i64 x0,.int .i64 x1,.int .i64 x2] 100 (0,0))∧Below w.heap.size w x) ⟨heap_alloc_new _ _,(Below.refl _ _).alloc (Nat.le_refl _) _⟩ ?_
 rintro x ⟨hb,hB⟩
 have y0:=blk_cell (i:=0) hb
 have y1:=blk_cell (i:=1) hb
 have y2:=blk_cell (i:=2) hb
 simp at y0 y1 y2
 have z0:=(hB.cell (p:=⟨p,1,none⟩) hpl).trans g0
 have z1:=(hB.cell (p:=⟨p,2,none⟩) hpl).trans g1
 have z2:=(hB.cell (p:=⟨p,3,none⟩) hpl).trans g2
 have HB:=hide hB
 clear hb hB g0 g1 g2
 go_quiet (fail)
 go_wp2
 go_ret
 exact ⟨rfl,(unhide HB).trans (below_drewN (Below.refl _ _) _ |>.mono (unhide HB).size)⟩
theorem paStep_gone {tk:Nat} {wel fen:Bool} (H:PaAt w p g tk wel fen free sh st c) (X:Nat→Nat) :
  PaStep w (((w.setCell ⟨p,1,none⟩ (.int .i64 (X 0))).setCell ⟨p,2,none⟩ (.int .i64 (X 1))).setCell ⟨p,3,none⟩ (.int .i64 (X 2))) p X tk wel fen free sh st c:=by
 have one:∀ {w:World} {c:Av} {g:Nat→Nat} (i:Nat) (hi:i < 3) (v:Nat),PaAt w p g tk wel fen free sh st c→PaStep w (w.setCell ⟨p,1+i,none⟩ (.int .i64 v)) p (fun t => if t=i then v else g t) tk wel fen free sh st c:=by
  intro w c g i hi v H
  have hsz:=H.ks.sz
  refine paStep_cell H (1+i) (.int .i64 v) (.inl (by omega)) (fun j hj => ?_) ?_ ?_ ?_
  ·by_cases e:j=i
   ·subst e
    have:1+j < c.arr.size:=by omega
    simp [this]
   ·rw [Array.getElem?_setIfInBounds_ne (by omega),H.ks.ag j hj,if_neg e]
  ·rw [Array.getElem?_setIfInBounds_ne (by omega)];exact H.ks.at'
  ·rw [Array.getElem?_setIfInBounds_ne (by omega)];exact H.ks.aw
  ·rw [Array.getElem?_setIfInBounds_ne (by omega)];exact H.ks.ae
 have h1:=one 0 (by omega) (X 0) H
 have h2:=h1.trans (fun c' h => one 1 (by omega) (X 1) h)
 have h3:=h2.trans (fun c' h => one 2 (by omega) (X 2) h)
 obtain ⟨c',h,r⟩:=h3
 refine ⟨c',⟨{ h.ks with ag:=fun i hi => ?_ },h.stt,h.rl,h.len⟩,r⟩
 rw [h.ks.ag i hi]
 obtain rfl | rfl | rfl:i=0 ∨ i=1 ∨ i=2:=by omega
 all_goals simp
set_option maxRecDepth 100000 in
set_option maxHeartbeats 8000000 in
theorem letGo_some (H:PaAt w p g a.ticks a.welcome a.fenced free sh st c) (hs:Sound st) (O:OnAg a st.opening g free sh pl) (n X:Nat→Nat) (hn:∀ i,i < 3→n i ≤ (a.fl i).kept.length) (hX:∀ i,i < 3→X i=(a.fl i).base+n i) (hXm:∀ i,i < 3→X i < 4294967296)
  (hne:¬ (X 0=g 0∧X 1=g 1∧X 2=g 2)) :
  Calls Tryz.prog 117 #[ptrTo p,.agg #[.int .i64 (X 0),.int .i64 (X 1),.int .i64 (X 2)]] w fun r z => r = .returned (.int .i64 0)∧AgIs w z p (a.drop n) c:=by
 have g0:w.cell? ⟨p,1,none⟩=some (.int .i64 (g 0)):=by rw [blk_cell H.ks.blk];exact H.ks.ag 0 (by omega)
 have g1:w.cell? ⟨p,2,none⟩=some (.int .i64 (g 1)):=by rw [blk_cell H.ks.blk];exact H.ks.ag 1 (by omega)
 have g2:w.cell? ⟨p,3,none⟩=some (.int .i64 (g 2)):=by rw [blk_cell H.ks.blk];exact H.ks.ag 2 (by omega)
 have hpl:=lt_of_block H.ks.blk
 obtain ⟨h0,hs2⟩:=sound_num hs (X 0) (X 1) (X 2)
 have hln:=putNumbers_len (st:=st) (X 0) (X 1) (X 2) H.stt.hd (by rw [H.len];omega)
 rw [H.len] at hln
 have hop:=putNumbers_opening (st:=st) (X 0) (X 1) (X 2)
 have hWN:=fun y (hy:StAt y c.s c.dp st c.dlv c.duv) => writeNumbers_any y c.s c.dp st c.dlv c.duv hy (X 0) (X 1) (X 2) (hXm 0 (by omega)) (hXm 1 (by omega)) (hXm 2 (by omega))
 obtain ⟨st2,hst2⟩:∃ st2,st2=(st.putNumbers (X 0) (X 1) (X 2)).2:=⟨_,rfl⟩
 rw [h0,← hst2] at hWN
 rw [← hst2] at hs2 hln hop
 have hcmp:∀ z:World,(Op.equalIn 10000 100 (.agg #[.int .i64 (X 0),.int .i64 (X 1),.int .i64 (X 2)]) (.agg #[.int .i64 (g 0),.int .i64 (g 1),.int .i64 (g 2)])).run Tryz.prog z = .ok false z:=fun z => by
  rw [eq_nums]
  congr 1
  by_cases e0:(X 0:Int)=(g 0:Int)
  ·by_cases e1:(X 1:Int)=(g 1:Int)
   ·have e2:¬ (X 2:Int)=(g 2:Int):=fun e2 => hne ⟨by omega,by omega,by omega⟩
    simp [e2]
   ·simp [e1]
  ·simp [e0]
 have hPG:=fun (z:World) (c':Av) (h:PaAt z p g a.ticks a.welcome a.fenced free sh st2 c') => paStep_gone h X
 have hXi:∀ j:Nat,j < 3→∀ cs:Array Value,cs = #[.int .i64 (X 0),.int .i64 (X 1),.int .i64 (X 2)] → cs[j]? = some (.int .i64 (X j)):=by
  rintro j hj _ rfl
  obtain rfl | rfl | rfl:j=0 ∨ j=1 ∨ j=2:=by omega
  all_goals rfl
 have HWN:=fun y hy => hide (hWN y hy)
 have HPG:=fun z c' h => hide (hPG z c' h)
 have HXI:=hide hXi
 have HH:=hide H
 have HO:=hide O
 have HF:=hide (And.intro hs2 (And.intro hln (And.intro hop (And.intro hn hX))))
 obtain ⟨x0,hx0⟩:∃ x,x=X 0:=⟨_,rfl⟩
 obtain ⟨x1,hx1⟩:∃ x,x=X 1:=⟨_,rfl⟩
 obtain ⟨x2,hx2⟩:∃ x,x=X 2:=⟨_,rfl⟩
 rw [← hx0,← hx1,← hx2] at HWN hcmp HPG HXI ⊢
 have HXX:=hide (And.intro hx0 (And.intro hx1 hx2))
 generalize g 0=y0 at *
 generalize g 1=y1 at *
 generalize g 2=y2 at *
 clear H O hs2 hln hop hWN hPG hXi h0 hst2 hne hx0 hx1 hx2 hn hX hXm hs
 unfold ptrTo at *
 go_enter Tryz.func117,Tryz.ntmps117
 go_upto_region 1 with fail
 refine wp_world (fun x => x.heap[w.heap.size]? = some (.cells #[.int .i64 x0,.int .i64 x1,.int .i64 x2] 100 (0,0))∧Below w.heap.size w x) ⟨heap_alloc_new _ _,(Below.refl _ _).alloc (Nat.le_refl _) _⟩ ?_
 rintro x ⟨hb,hB⟩
 have b0:=blk_cell (i:=0) hb
 have b1:=blk_cell (i:=1) hb
 have b2:=blk_cell (i:=2) hb
 simp at b0 b1 b2
 have d0:=(hB.cell (p:=⟨p,1,none⟩) hpl).trans g0
 have d1:=(hB.cell (p:=⟨p,2,none⟩) hpl).trans g1
 have d2:=(hB.cell (p:=⟨p,3,none⟩) hpl).trans g2
 have HB:=hide hB
 have HBX:=hide hb
 clear hb hB g0 g1 g2
 go_quiet (fail)
 go_upto_region 3 with fail
 refine wp_world (fun x => x.heap[w.heap.size]? = some (.cells #[.int .i64 x0,.int .i64 x1,.int .i64 x2] 100 (0,0))∧Below w.heap.size w x) ⟨unhide HBX,(unhide HB).trans (below_drewN (Below.refl _ _) _ |>.mono (unhide HB).size)⟩ ?_
 clear b0 b1 b2 d0 d1 d2 HB HBX hcmp
 rintro x ⟨hb,hB⟩
 have b0:=blk_cell (i:=0) hb
 have b1:=blk_cell (i:=1) hb
 have b2:=blk_cell (i:=2) hb
 simp at b0 b1 b2
 have hgx:=lt_of_block hb
 have HB:=hide hB
 have HBX:=hide hb
 have hnSt:∀ k,w.heap.size ≤ k→¬ StU c.s c.dp c.dlv c.duv k:=fun k hk h => by have:=(unhide HH).lt k (.inr (.inl h));omega
 clear hb hB
 refine wp_region_foot (by kernel_rfl)
  [fun v _ => v = .pointer (some ⟨p,0,none⟩),fun v _ => v = .pointer (some ⟨p,0,none⟩),fun v _ => v = .pointer (some ⟨p,0,none⟩),fun v _ => v = .pointer (some ⟨c.s,0,none⟩),fun v _ => v = .agg #[.int .i64 x0,.int .i64 x1,.int .i64 x2],
   fun v y => v = .int .i64 0∧∃ uv',StAt y c.s c.dp st2 c.dlv uv' ∧ Loc w c.duv uv',fun v _ => v = .int .i64 0]
  [[(0,none)],[(15,some 0)],[(16,some 1)],[(17,some 2)],[(3,none)],[(18,some 3),(19,some 4)],[(20,some 5)]] [some 15,some 16,some 17,some 18,some 19,some 20,some 5] [false,false,false,false,false,true,false,false,false,false,false,false,false,false,false,true,true,true,true,true,true,false,false,false,false,false,false,false,false,false,false,false,false,false,false,false,false,false,false,false,false,false,false,false,false,false,false,false,false,false,false,false,false,false,false,false,false,false,false,false,false,false,false,false,false,false,false,false,false]
  [(5,StU c.s c.dp c.dlv c.duv)]
  (by kernel_rfl) (by kernel_rfl) (by kernel_rfl) (by kernel_rfl) (by kernel_rfl) ?_ ?_ ?_ ?_
 ·repeat' (first | exact stable_eq _ | exact (fun _ _ _ h hb => ⟨h.1,h.2.imp fun _ h => ⟨h.1.far (far_below (E:=fun _ => False) hb) (fun _ _ h => h),h.2⟩⟩) | exact trivial | apply And.intro)
 ·repeat' (first | exact trivial | exact .inl rfl | exact .inr (.inr (stableF_eq _ _)) | apply And.intro)
 ·refine ⟨?_,?_,?_,?_,?_,?_,?_,trivial⟩
  all_goals
   intro a' z hb hf
   have hbG:=hb.blk (unhide HBX) (footBut_no (by intro q hq;simp at hq;subst hq;exact hnSt _ (Nat.le_refl _)))
   have e0:=blk_cell (i:=0) hbG
   have e1:=blk_cell (i:=1) hbG
   have e2:=blk_cell (i:=2) hbG
   simp at e0 e1 e2
   clear hbG
   simp only [PlanFacts,List.getD_cons_zero,List.getD_cons_succ,Array.getD_eq_getD_getElem?] at hf
   try simp at hf
  iterate 3
   ·clear hb
    go_simp
    exact ⟨_,rfl,Far.refl _ _,rfl⟩
  ·have z0:z.cell? ⟨p,0,none⟩=some (.pointer (some ⟨c.s,0,none⟩)):=by
    have hH:=(unhide HH).below (unhide HB)
    have:=hb.blk hH.ks.blk (footBut_no (by intro q hq;simp at hq;subst hq;exact fun h => hH.sep p (.inl rfl) h))
    rw [blk_cell this,hH.ks.a0]
    rfl
   clear hb
   go_simp
   exact ⟨_,rfl,Far.refl _ _,rfl⟩
  ·clear hb
   go_simp
   exact ⟨_,rfl,Far.refl _ _,rfl⟩
  ·have hbz:Below x.heap.size x z:=hb.below (Nat.le_refl _) (by
    rintro j _ ⟨q,hq,g1,g2,g3⟩
    simp at hq
    subst hq
    exact g1 rfl)
   have HC:=hide (unhide (HWN z (((unhide HH).below (unhide HB)).below hbz).stt))
   have hzz:=hbz.size
   have hzw:=(unhide HB).size
   clear hb hbz
   go_simp
   refine (unhide HC).mono ?_
   rintro r z2 ⟨rfl,uv',k1,k2,k3⟩
   exact ⟨_,rfl,footOf_of (.head _) k3,rfl,uv',k1,loc_less k2 (by omega)⟩
  ·clear hb
   obtain ⟨hf,_⟩:=hf
   go_simp
   exact ⟨_,rfl,Far.refl _ _,rfl⟩
 ·intro f z hF hwd
  obtain ⟨_,uv',k1,k2⟩:=hwd.2.2.2.2.2.1
  have h6:=hwd.2.2.2.2.2.2.1
  have hF:Far (StU c.s c.dp c.dlv c.duv) x z:=hF.mono (fun k _ h => by
   obtain ⟨q,hq,h⟩:=h
   simp at hq
   subst hq
   exact h)
  have hST:=paStep_store (unhide HH) k1 k2 ((far_below (E:=StU c.s c.dp c.dlv c.duv) (unhide HB)).trans hF (fun _ _ h => h)) (unhide HF).2.1
  have hbz:=hF.blk (unhide HBX) (hnSt _ (Nat.le_refl _))
  have hG:=hST.trans (fun c' h => unhide (HPG z c' h))
  obtain ⟨cz,Kz,_⟩:=id hST
  have f1:z.frozen? ⟨p,1,none⟩=false:=blk_free (i:=1) Kz.ks.blk
  have f2:z.frozen? ⟨p,2,none⟩=false:=blk_free (i:=2) Kz.ks.blk
  have f3:z.frozen? ⟨p,3,none⟩=false:=blk_free (i:=3) Kz.ks.blk
  have d1:z.cell? ⟨p,1,none⟩=some (.int .i64 (g 0)):=by rw [blk_cell Kz.ks.blk];exact Kz.ks.ag 0 (by omega)
  have d2:z.cell? ⟨p,2,none⟩=some (.int .i64 (g 1)):=by rw [blk_cell Kz.ks.blk];exact Kz.ks.ag 1 (by omega)
  have d3:z.cell? ⟨p,3,none⟩=some (.int .i64 (g 2)):=by rw [blk_cell Kz.ks.blk];exact Kz.ks.ag 2 (by omega)
  have b0:=blk_cell (i:=0) hbz
  have b1:=blk_cell (i:=1) hbz
  have b2:=blk_cell (i:=2) hbz
  simp at b0 b1 b2
  have hpG:¬ w.heap.size=p:=by omega
  have HG:=hide hG
  have HBZ:=hide hbz
  clear hwd hF k1 k2 hST hbz hG Kz
  simp only [mergeT,h6]
  generalize f 15=x15
  generalize f 16=x16
  generalize f 17=x17
  generalize f 18=x18
  generalize f 19=x19
  generalize f 20=x20
  go_upto_region 7 with fail
  have hbox:(((z.setCell ⟨p,1,none⟩ (.int .i64 x0)).setCell ⟨p,2,none⟩ (.int .i64 x1)).setCell ⟨p,3,none⟩ (.int .i64 x2)).heap[w.heap.size]? = some (.cells #[.int .i64 x0,.int .i64 x1,.int .i64 x2] 100 (0,0)):=by
   rw [blk_set_ne hpG,blk_set_ne hpG,blk_set_ne hpG]
   exact unhide HBZ
  refine wp_world (fun y => y.heap[w.heap.size]? = some (.cells #[.int .i64 x0,.int .i64 x1,.int .i64 x2] 100 (0,0))∧PaStep w y p X a.ticks a.welcome a.fenced free sh st2 c) ⟨hbox,unhide HG⟩ ?_
  clear hbox HBZ HG b0 b1 b2 f1 f2 f3 d1 d2 d3
  rintro y HY0
  have HY:=hide HY0
  clear HY0
  go_wp2
  go_loopw [6,28] (fun _ i wr => ∃ j:Nat,j ≤ 3∧i = .int .i64 j∧wr.heap[w.heap.size]? = some (.cells #[.int .i64 x0,.int .i64 x1,.int .i64 x2] 100 (0,0))∧∃ fr' sh' pl',PaStep w wr p X a.ticks a.welcome a.fenced fr' sh' st2 c∧OnAg (agD a n j) st2.opening (fun t => ((agD a n j).fl t).base) fr' sh' pl') (fun _ i _ => 3 - (intOf i).toNat)
  case atStart =>
   refine ⟨0,by omega,rfl,(unhide HY).1,free,sh,pl,(unhide HY).2,?_⟩
   rw [agD_zero,(unhide HF).2.2.1]
   exact { (unhide HO) with bs:=fun _ _ => rfl }
  case round =>
   obtain ⟨j,hj,rfl,hbG,fr',sh',pl',hP,hO⟩:=hrel
   clear HY
   by_cases hlt:j < 3
   ·obtain ⟨c1,K1,F1,N1,t1,t2⟩:=hP
    have hnj:=(unhide HF).2.2.2.1 j hlt
    have hXj:=(unhide HF).2.2.2.2 j hlt
    have hkp:=hO.kp j hlt
    have hpn:=hO.pn j hlt
    rw [agD_self] at hkp hpn
    have hare:AreA (sh' (j * 3)):=by rw [hkp];exact keptL_are _ _ _
    have hcut:cutAt (sh' (j * 3)) (X j)=n j:=by rw [hkp,hXj];exact keptL_cut _ _ _ _ hnj hpn
    have hTK:=fun y (hy:Below wr.heap.size wr y) => takeUpToA_any ((K1.below hy).shAt (i:=j * 3) (by omega)) hare (X j)
    simp only [hcut] at hTK
    have hTKs:∀ y (hy:Below wr.heap.size wr y),Hid (Calls Tryz.prog 166 #[.pointer (some ⟨p,4+j * 6,none⟩),.int .i64 (X j)] y fun e w' => ∃ ad cap,e = .returned (.slice ad (n j) cap)∧RowO w' 140 2 (.slice ad (n j) cap) (n j) (flat ((sh' (j * 3)).take (n j)))∧ShTook y w' p (4+j * 3 * 2) 116 c1.arr (c1.nv (j * 3)) (c1.mv (j * 3)) ((sh' (j * 3)).drop (n j))):=by
     intro y hy
     have h:=hTK y hy
     rw [show 4+j * 3 * 2=4+j * 6 by omega] at h ⊢
     refine hide (h.mono ?_)
     rintro e w' ⟨v,rfl,ho,hs⟩
     have ho':=RowO.of_own (ownsRow_monoB ho (Nat.zero_le _))
     obtain ⟨ad,cap,rfl,_⟩:=ho'.shape
     exact ⟨ad,cap,rfl,ho',hs⟩
    have bj:wr.cell? ⟨w.heap.size,j,none⟩=some (.int .i64 (X j)):=by
     rw [blk_cell hbG]
     exact (unhide HXI) j hlt _ rfl
    have hGl:=lt_of_block hbG
    have hGn:=pa_not_cells K1 hbG (by decide) (by decide) (by decide) (by decide) (by decide) (by decide) (by decide)
    have hGe:¬ (w.heap.size=p ∨ ShU (c1.nv (j * 3)) (c1.mv (j * 3)) w.heap.size):=fun h => hGn (h.elim (fun h => .inl (.inl h)) (fun h => .inl (.inr (.inr ⟨_,by omega,h⟩))))
    have hj0:(0:Int) ≤ (j:Int):=by omega
    have hj3:(j:Int) < 3:=by omega
    have HP:=hide (And.intro K1 (And.intro F1 (And.intro N1 (And.intro t1 t2))))
    have HOJ:=hide hO
    have HBG:=hide hbG
    have HNJ:=hide (And.intro hnj (And.intro hXj (And.intro hkp hpn)))
    obtain ⟨nj,hnjd⟩:∃ nj,nj=n j:=⟨_,rfl⟩
    obtain ⟨xj,hxjd⟩:∃ xj,xj=X j:=⟨_,rfl⟩
    rw [← hnjd] at hTKs
    rw [← hxjd] at hTKs bj
    have HEQ:=hide (And.intro hnjd hxjd)
    clear hTK hare hcut K1 F1 N1 t1 t2 hO hbG hnj hXj hkp hpn hGn hnjd hxjd
    go_upto_region 10 with fail
    refine wp_region_foot (by kernel_rfl)
     [fun v _ => v = .pointer (some ⟨p,0,none⟩),fun v _ => v = .int .i64 j,fun v _ => v = .pointer (some ⟨p,0,none⟩),fun v _ => v = .pointer (some ⟨p,4,none⟩),fun v _ => v = .pointer (some ⟨p,4+j * 6,none⟩),fun v _ => v = .pointer (some ⟨p,4+j * 6,none⟩),fun v _ => v = .int .i64 j,fun v _ => v = .pointer (some ⟨w.heap.size,j,none⟩),fun v _ => v = .int .i64 xj,
      fun v z => ∃ ad cap,v = .slice ad nj cap∧RowO z 140 2 (.slice ad nj cap) nj (flat ((sh' (j * 3)).take nj))∧ShTook wr z p (4+j * 3 * 2) 116 c1.arr (c1.nv (j * 3)) (c1.mv (j * 3)) ((sh' (j * 3)).drop nj),fun v _ => v = .int .i64 nj,fun v _ => v = .int .i64 0]
     [[(0,none)],[(6,none)],[(31,some 0)],[(33,some 2)],[(34,some 3),(32,some 1)],[(35,some 4)],[(6,none)],[(3,none),(37,some 6)],[(38,some 7)],[(36,some 5),(39,some 8)],[(40,some 9)],[]] [some 31,some 32,some 33,some 34,some 35,some 36,some 37,some 38,some 39,some 40,some 41,some 42] [false,false,false,false,false,false,false,false,false,false,false,false,false,false,false,false,false,false,false,false,false,false,false,false,false,false,false,false,false,false,false,true,true,true,true,true,true,true,true,true,true,true,true,false,false,false,false,false,false,false,false,false,false,false,false,false,false,false,false,false,false,false,false,false,false,false,false,false,false]
     [(9,fun k => k=p ∨ ShU (c1.nv (j * 3)) (c1.mv (j * 3)) k)]
     (by kernel_rfl) (by kernel_rfl) (by kernel_rfl) (by kernel_rfl) (by kernel_rfl) ?_ ?_ ?_ ?_
    ·repeat' (first | exact stable_eq _ | exact (fun _ _ _ h hb => h.imp fun _ h => h.imp fun _ h => ⟨h.1,h.2.1.keep (fun g hg => hb.block g (h.2.1.lt g hg)),shTook_below h.2.2 hb⟩) | exact trivial | apply And.intro)
    ·repeat' (first | exact trivial | exact .inl rfl | exact .inr (.inr (stableF_eq _ _)) | exact .inr (.inl (by decide +kernel)) | apply And.intro)
    ·refine ⟨?_,?_,?_,?_,?_,?_,?_,?_,?_,?_,?_,?_,trivial⟩
     all_goals
      intro a' z hb hf
      have e0:z.cell? ⟨w.heap.size,j,none⟩=some (.int .i64 xj):=by
       have:=hb.blk (unhide HBG) (footBut_no (by intro q hq;simp at hq;subst hq;exact hGe))
       rw [blk_cell this,← blk_cell (unhide HBG)]
       exact bj
      simp only [PlanFacts,List.getD_cons_zero,List.getD_cons_succ,Array.getD_eq_getD_getElem?] at hf
      try simp at hf
     iterate 9
      ·clear hb hTKs
       go_simp
       exact ⟨_,rfl,Far.refl _ _,rfl⟩
     ·have hbz:Below wr.heap.size wr z:=hb.below (Nat.le_refl _) (by
       rintro k _ ⟨q,hq,g1,g2,g3⟩
       simp at hq
       subst hq
       exact g1 rfl)
      have HC:=hide (unhide (hTKs z hbz))
      have HBZ:=hide hbz
      clear hb hbz hTKs
      go_simp
      refine (unhide HC).mono ?_
      rintro r z2 ⟨ad,cap,rfl,k1,k2⟩
      exact ⟨_,rfl,footOf_of (.head _) k2.far,ad,cap,rfl,k1,⟨k2.out,(far_below (unhide HBZ)).trans k2.far (fun _ _ h => h)⟩⟩
     ·obtain ⟨ad,cap,hv,_⟩:=hf
      clear hb hTKs
      go_simp
      exact ⟨_,rfl,Far.refl _ _,rfl⟩
     ·clear hb hTKs
      go_simp
      exact ⟨_,rfl,Far.refl _ _,rfl⟩
    ·intro f2 z1 hFz hwd
     obtain ⟨adt,capt,hv9,hrow,htook⟩:=hwd.2.2.2.2.2.2.2.2.2.1
     have hv10:=hwd.2.2.2.2.2.2.2.2.2.2.1
     have hv11:=hwd.2.2.2.2.2.2.2.2.2.2.2.1
     clear hwd hFz hTKs
     simp only [mergeT,hv9,hv10,hv11]
     generalize f2 31=y31
     generalize f2 32=y32
     generalize f2 33=y33
     generalize f2 34=y34
     generalize f2 35=y35
     generalize f2 36=y36
     generalize f2 37=y37
     generalize f2 38=y38
     generalize f2 39=y39
     obtain ⟨K1,F1,N1,t1,t2⟩:=unhide HP
     have hbG1:=htook.far.blk (unhide HBG) hGe
     have hST1:=paAfter F1 N1 t1 t2 (paStep_sh K1 (i:=j * 3) (by omega) (htook.step (K1.ks.am (j * 3) (by omega))))
     obtain ⟨sh1,hsh1⟩:∃ sh1,sh1=fun t => if t=j * 3 then (sh' (j * 3)).drop nj else sh' t:=⟨_,rfl⟩
     rw [← hsh1] at hST1
     obtain ⟨TR,hTR⟩:∃ TR,TR=flat ((sh' (j * 3)).take nj):=⟨_,rfl⟩
     rw [← hTR] at hrow
     have hTRc:∀ t,t < nj→∃ bt:ByteArray,TR[t * 2]? = some (.string bt)∧TR[t * 2+1]? = some (.int .i64 ((pl' j).getD t 0:Nat)):=by
      intro t ht
      obtain ⟨hnj,hXj,hkp,hpn⟩:=unhide HNJ
      rw [← (unhide HEQ).1] at hnj
      rw [hTR,hkp,keptL_take]
      have:=flat_keptL (a.fl j).base ((a.fl j).kept.take nj) ((pl' j).take nj) t (by simp [hpn]) (by simp;omega)
      have hg:((pl' j).take nj).getD t 0=(pl' j).getD t 0:=by
       rw [List.getD_eq_getElem?_getD,List.getD_eq_getElem?_getD,List.getElem?_take,if_pos ht]
      rw [hg] at this
      exact ⟨_,this.1,this.2⟩
     have hplj:∀ t,t < nj→(pl' j).take (t+1)=(pl' j).take t ++ [(pl' j).getD t 0]:=by
      intro t ht
      obtain ⟨hnj,hXj,hkp,hpn⟩:=unhide HNJ
      rw [← (unhide HEQ).1] at hnj
      have htl:t < (pl' j).length:=by omega
      rw [List.take_add_one,List.getElem?_eq_getElem htl,List.getD_eq_getElem?_getD,List.getElem?_eq_getElem htl]
      rfl
     have hnj24:nj ≤ 24:=by
      have h1:=(unhide HO).small hlt
      have h2:=(unhide HNJ).1
      rw [← (unhide HEQ).1] at h2
      omega
     have HQ:=hide (And.intro hbG1 (And.intro hrow hST1))
     have HT:=hide (And.intro hTRc hplj)
     have HS1:=hide (And.intro hsh1 hTR)
     clear K1 F1 N1 t1 t2 hbG1 hST1 hsh1 hTR hTRc hplj hrow htook hv10 hv11 hv9
     go_wp2
     go_loopw [8,42] (fun _ i wr2 => ∃ t:Nat,t ≤ nj∧i = .int .i64 t∧wr2.heap[w.heap.size]? = some (.cells #[.int .i64 x0,.int .i64 x1,.int .i64 x2] 100 (0,0))∧RowO wr2 140 2 (.slice adt nj capt) nj TR∧PaStep w wr2 p X a.ticks a.welcome a.fenced (fr' ++ (pl' j).take t) sh1 st2 c) (fun _ i _ => nj - (intOf i).toNat)
     case atStart =>
      obtain ⟨q1,q2,q3⟩:=unhide HQ
      exact ⟨0,by omega,rfl,q1,q2,by simpa using q3⟩
     case round =>
      obtain ⟨t,ht,rfl,hbG2,hrow2,hP2⟩:=hrel
      clear HQ
      by_cases htl:t < nj
      ·obtain ⟨ad',cap',esl,_,_,hcl⟩:=hrow2.shape
       injection esl with esl _ esl2
       subst esl esl2
       obtain ⟨gt,ot,rfl,hcl2⟩:=hcl (by omega)
       obtain ⟨bt,hc0,hc1⟩:=(unhide HT).1 t htl
       have r0:=(hcl2 (t * 2) (by omega)).trans hc0
       have r1:=(hcl2 (t * 2+1) (by omega)).trans hc1
       rw [show ot+(t * 2+1)=ot+t * 2+1 by omega] at r1
       obtain ⟨pt,hpt⟩:∃ pt,pt=(pl' j).getD t 0:=⟨_,rfl⟩
       rw [← hpt] at r1
       have HPT:=hide hpt
       obtain ⟨c2,K2,F2,N2,s1,s2⟩:=hP2
       have ht0:(0:Int) ≤ (t:Int):=by omega
       have htn:(t:Int) < (nj:Int):=by omega
       have HK2:=hide (And.intro K2 (And.intro F2 (And.intro N2 (And.intro s1 s2))))
       have HBR:=hide (And.intro hbG2 hrow2)
       clear K2 F2 N2 s1 s2 hcl hcl2 hc0 hc1 hpt hbG2 hrow2
       go_upto_region 13 with fail
       obtain ⟨g8,hg8⟩:∃ g8,g8=wr.heap.size:=⟨_,rfl⟩
       have HG8:=hide hg8
       rw [← hg8]
       clear hg8
       refine wp_world (fun y => y.heap[g8]? = some (.cells #[.string bt,.int .i64 pt] 140 (0,0))∧Below wr.heap.size wr y) ?_ ?_
       ·rw [unhide HG8]
        exact ⟨heap_alloc_new _ _,(Below.refl _ _).alloc (Nat.le_refl _) _⟩
       clear r0 r1
       rintro y8 ⟨h8,hb8⟩
       obtain ⟨K2,F2,N2,s1,s2⟩:=unhide HK2
       have K2y:=K2.below hb8
       obtain ⟨Lf,hLf⟩:∃ Lf,Lf=fr' ++ (pl' j).take t:=⟨_,rfl⟩
       rw [← hLf] at K2y
       obtain ⟨m2,hm2⟩:∃ m2,m2=Lf.length:=⟨_,rfl⟩
       obtain ⟨ad2,cap2,hfv2,_⟩:=K2y.ks.fr.shape
       have hrow2:=K2y.ks.fr
       rw [← hm2] at hfv2 hrow2
       have hm24:m2 ≤ 24+24:=by
        have h1:=(unhide HOJ).sum
        rw [hm2,hLf,List.length_append,List.length_take]
        omega
       have d22:y8.cell? ⟨p,22,none⟩=some c2.fv:=by rw [blk_cell K2y.ks.blk,K2y.ks.af]
       have d22':y8.cell? ⟨p,22,none⟩=some (.slice ad2 m2 cap2):=by rw [d22,hfv2]
       have hup:=K2y.ks.fr.ne K2y.ks.blk (by decide)
       have hu8:=K2y.ks.fr.ne h8 (by decide)
       have hpy:=lt_of_block K2y.ks.blk
       have h8l:=lt_of_block h8
       have hp8:¬ g8=p:=by
        have:=lt_of_block K2.ks.blk
        have:=unhide HG8
        omega
       have hfvl:=fun g hg => K2y.ks.fr.lt g hg
       have HKY:=hide K2y
       have HB8:=hide hb8
       have H8:=hide h8
       have HR2:=hide hrow2
       have HL:=hide (And.intro hLf hm2)
       have HSTK:=hide (And.intro K2 (And.intro F2 (And.intro N2 (And.intro s1 s2))))
       clear K2 F2 N2 s1 s2 K2y hb8 h8 hrow2 hLf hm2 d22 d22'
       refine wp_region_foot (by kernel_rfl)
        [fun v _ => v = .pointer (some ⟨p,0,none⟩),fun v _ => v = .pointer (some ⟨p,0,none⟩),fun v _ => v = .pointer (some ⟨p,0,none⟩),fun v _ => v = .pointer (some ⟨p,22,none⟩),fun v _ => v = .slice ad2 m2 cap2,fun v _ => v = .pointer (some ⟨g8,1,none⟩),fun v _ => v = .int .i64 pt,OneI y8.heap.size pt,RowI y8 c2.fv (Lf ++ [pt]),fun v _ => v = .pointer (some ⟨p,0,none⟩),fun v _ => v = .pointer (some ⟨p,22,none⟩),
         fun _ z => PaStep y8 z p X a.ticks a.welcome a.fenced (Lf ++ [pt]) sh1 st2 c2]
        [[(0,none)],[(0,none)],[(47,some 1)],[(48,some 2)],[(49,some 3)],[(8,none)],[(51,some 5)],[(52,some 6)],[(50,some 4),(53,some 7)],[(46,some 0)],[(55,some 9)],[(56,some 10),(54,some 8)]] [some 46,some 47,some 48,some 49,some 50,some 51,some 52,some 53,some 54,some 55,some 56,none] [false,false,false,false,false,false,false,false,false,false,false,false,false,false,false,false,false,false,false,false,false,false,false,false,false,false,false,false,false,false,false,false,false,false,false,false,false,false,false,false,false,false,false,false,false,false,true,true,true,true,true,true,true,true,true,true,true,false,false,false,false,false,false,false,false,false,false,false,false]
        [(8,fun k => c2.fv.ownBlock=some k),(11,fun k => k=p)]
        (by kernel_rfl) (by kernel_rfl) (by kernel_rfl) (by kernel_rfl) (by kernel_rfl) ?_ ?_ ?_ ?_
       ·repeat' (first | exact stable_eq _ | exact stable_oneI _ _ | exact stable_rowI _ _ _ | exact (fun _ _ _ h hb => h.below hb) | exact trivial | apply And.intro)
       ·repeat' (first | exact trivial | exact .inl rfl | exact .inr (.inr (stableF_eq _ _)) | exact .inr (.inr (stableF_oneI (fun g hg => hfvl g hg))) | exact .inr (.inr (stableF_oneI (fun g (hg:g=p) => by omega))) | exact .inr (.inr (stableF_rowI (fun g (hg:g=p) => ⟨by omega,by rw [hg];exact hup⟩))) | exact .inr (.inl (show depB _ 11 8=true by decide +kernel)) | apply And.intro)
       ·refine ⟨?_,?_,?_,?_,?_,?_,?_,?_,?_,?_,?_,?_,trivial⟩
        all_goals
         intro a' z hb hf
         have hzz:=hb.size
         have HBZ:=hide hb
         clear hb
         simp only [PlanFacts,List.getD_cons_zero,List.getD_cons_succ,Array.getD_eq_getD_getElem?] at hf
         try simp at hf
        iterate 4
         ·go_simp
          exact ⟨_,rfl,Far.refl _ _,rfl⟩
        ·have d0:=(unhide HBZ).blk (unhide HKY).ks.blk (by
          rintro ⟨q,hq,g1,g2,g3⟩
          simp at hq
          rcases hq with rfl | rfl
          ·exact hup g3
          ·exact absurd (show depB _ 11 4=false from g2) (by decide +kernel))
         have d1:z.cell? ⟨p,22,none⟩=some (.slice ad2 m2 cap2):=by rw [blk_cell d0,(unhide HKY).ks.af,hfv2]
         clear d0
         go_simp
         exact ⟨_,rfl,Far.refl _ _,rfl⟩
        ·go_simp
         exact ⟨_,rfl,Far.refl _ _,rfl⟩
        ·have d0:=(unhide HBZ).blk (unhide H8) (by
          rintro ⟨q,hq,g1,g2,g3⟩
          simp at hq
          rcases hq with rfl | rfl
          ·exact hu8 g3
          ·exact hp8 g3)
         have d1:z.cell? ⟨g8,1,none⟩=some (.int .i64 pt):=blk_cell (i:=1) d0
         clear d0
         go_simp
         exact ⟨_,rfl,Far.refl _ _,rfl⟩
        ·go_simp
         exact ⟨_,rfl,far_below ((Below.refl _ _).alloc (Nat.le_refl _) _),_,rfl,hzz,heap_alloc_new z _⟩
        ·have hoz:=(unhide HR2).far (unhide HBZ) (by
          rintro g hg ⟨q,hq,g1,g2,g3⟩
          simp at hq
          rcases hq with rfl | rfl
          ·exact g1 rfl
          ·have g3:g=p:=g3
           exact hup (by rw [hg,g3]))
         obtain ⟨g,hg,hgB,hgh⟩:=hf.2
         have hoz2:RowO z 3 1 (.slice ad2 m2 cap2) m2 (numCells Lf):=by rw [← hfv2];exact hoz
         refine step_app_o rfl (.tmp 50) (.tmp 53) 101 rfl 3 _ 1 8 Tryz.underlying101 infoI rfl (.slice ad2 m2 cap2) m2 (numCells Lf) hoz2 (by simp [Act.eval,hf]) ⟨g,0,none⟩ 1 1 [.int .i64 pt] (by simp [Act.eval,hg]) rfl ?_ (by intro u hu;simp at hu;subst hu;rfl) (by omega) (by omega) (by omega) ?_
         ·intro k u hk
          rw [add_mk,blk_cell hgh,Nat.zero_add]
          simpa using hk
         ·intro v' w' g1 g2
          obtain ⟨_,q2⟩:=unhide HL
          have hg1:RowO w' 3 1 v' (Lf ++ [pt]).length (numCells (Lf ++ [pt])):=by
           rw [List.length_append,List.length_singleton,← q2,show numCells (Lf ++ [pt])=numCells Lf ++ [.int .i64 pt] by simp [numCells]]
           exact g1
          have hgr:=g2.grown
          rw [← hfv2] at hgr g2
          exact ⟨v',rfl,footOf_of (.head _) (far_grown hgr),hg1,loc_app hzz g2,Nat.le_trans hzz hgr.size⟩
        ·go_simp
         exact ⟨_,rfl,Far.refl _ _,rfl⟩
        ·go_simp
         exact ⟨_,rfl,Far.refl _ _,rfl⟩
        ·have hFz:Far (fun k => c2.fv.ownBlock=some k) y8 z:=(unhide HBZ).mono (by
          rintro k _ ⟨q,hq,g1,g2,g3⟩
          simp at hq
          rcases hq with rfl | rfl
          ·exact g3
          ·exact absurd rfl g1)
         have d0:=hFz.blk (unhide HKY).ks.blk hup
         have f1:z.frozen? ⟨p,22,none⟩=false:=blk_free (i:=22) d0
         have d1:z.cell? ⟨p,22,none⟩=some (.slice ad2 m2 cap2):=by rw [blk_cell d0,(unhide HKY).ks.af,hfv2]
         obtain ⟨hv41,hrw⟩:=hf
         obtain ⟨ad3,cap3,hv39,_⟩:=hrw.1.shape
         have HRW:=hide hrw
         have HFZ:=hide hFz
         clear hrw d0 hFz
         rw [hv39] at HRW
         go_simp
         refine ⟨footOf_of (.tail _ (.head _)) (far_set z p 22 _),?_⟩
         obtain ⟨R1,R2,_⟩:=unhide HRW
         have hl1:(Lf ++ [pt]).length=Lf.length+1:=by simp
         rw [hl1] at R2
         have R1':RowO z 3 1 (.slice ad3 (Lf.length+1) cap3) (Lf ++ [pt]).length (numCells (Lf ++ [pt])):=by rw [← hl1];exact R1
         exact paStep_free (unhide HKY) _ (unhide HFZ) R1' R2
       ·intro f3 z3 hF3 hwd
        have hput:=hwd.2.2.2.2.2.2.2.2.2.2.2.1
        have hFz:Far (fun k => c2.fv.ownBlock=some k ∨ k=p) y8 z3:=hF3.mono (fun k _ h => by
         obtain ⟨q,hq,h⟩:=h
         simp at hq
         rcases hq with rfl | rfl
         ·exact .inl h
         ·exact .inr h)
        have HP3:=hide hput
        have HFZ:=hide hFz
        clear hput hwd hF3 hFz
        simp only [mergeT]
        generalize f3 46=v46
        generalize f3 47=v47
        generalize f3 48=v48
        generalize f3 49=v49
        generalize f3 50=v50
        generalize f3 51=v51
        generalize f3 52=v52
        generalize f3 53=v53
        generalize f3 54=v54
        generalize f3 55=v55
        generalize f3 56=v56
        go_wp2
        obtain ⟨hbG2,hrow2⟩:=unhide HBR
        obtain ⟨K2,F2,N2,s1,s2⟩:=unhide HSTK
        have hb8:=unhide HB8
        have hFz:=unhide HFZ
        obtain ⟨q1,q2⟩:=unhide HL
        have hGne:¬ (c2.fv.ownBlock=some w.heap.size ∨ w.heap.size=p):=by
         rintro (h | h)
         ·exact (K2.ks.fr.ne hbG2 (by decide)) h
         ·exact absurd h (by omega)
        refine ⟨⟨t+1,by omega,by go_num,?_,?_,?_⟩,by simp [intOf];omega⟩
        ·exact hFz.blk ((hb8.block _ (lt_of_block hbG2)).trans hbG2) hGne
        ·refine (hrow2.far (far_below (E:=fun _ => False) hb8) (fun _ _ h => h)).far hFz (fun g hg h => ?_)
         rcases h with h | h
         ·exact (hrow2.ty K2.ks.fr (by decide) hg) h
         ·exact (hrow2.ne K2.ks.blk (by decide)) (by rw [hg,h])
        ·rw [(unhide HT).2 t htl,← List.append_assoc,← q1,← unhide HPT]
         exact paAfter F2 N2 s1 s2 ((unhide HP3).behind hb8)
      ·have htn:nj=t:=by omega
       subst htn
       obtain ⟨c2,K2,F2,N2,s1,s2⟩:=hP2
       have hsh1:=(unhide HS1).1
       have hsi:AreI (sh1 (j * 3+1)):=by
        rw [hsh1]
        show AreI (if j * 3+1=j * 3 then _ else sh' (j * 3+1))
        rw [if_neg (by omega)]
        exact (unhide HOJ).si j hlt
       have hTI:=fun y (hy:Below wr.heap.size wr y) => hide (takeUpToI_any ((K2.below hy).shAt (i:=j * 3+1) (by omega)) hsi xj)
       rw [show 4+(j * 3+1) * 2=4+j * 6+2 by omega] at hTI
       have bj2:wr.cell? ⟨w.heap.size,j,none⟩=some (.int .i64 xj):=by
        rw [blk_cell hbG2,(unhide HEQ).2]
        exact (unhide HXI) j hlt _ rfl
       have hGl2:=lt_of_block hbG2
       have HK2:=hide (And.intro K2 (And.intro F2 (And.intro N2 (And.intro s1 s2))))
       have HBG2:=hide hbG2
       clear K2 F2 N2 s1 s2 hbG2 hsh1 hsi hrow2
       go_upto_region 15 with fail
       refine wp_region_last (by kernel_rfl)
        [fun v _ => v = .pointer (some ⟨p,0,none⟩),fun v _ => v = .int .i64 j,fun v _ => v = .pointer (some ⟨p,0,none⟩),fun v _ => v = .pointer (some ⟨p,4,none⟩),fun v _ => v = .pointer (some ⟨p,4+j * 6,none⟩),fun v _ => v = .pointer (some ⟨p,4+j * 6+2,none⟩),fun v _ => v = .int .i64 j,fun v _ => v = .pointer (some ⟨w.heap.size,j,none⟩),fun v _ => v = .int .i64 xj,fun _ _ => True]
        [[(0,none)],[(6,none)],[(58,some 0)],[(60,some 2)],[(61,some 3),(59,some 1)],[(62,some 4)],[(6,none)],[(3,none),(64,some 6)],[(65,some 7)],[(63,some 5),(66,some 8)]] [some 58,some 59,some 60,some 61,some 62,some 63,some 64,some 65,some 66,some 67] [false,false,false,false,false,false,false,false,false,false,false,false,false,false,false,false,false,false,false,false,false,false,false,false,false,false,false,false,false,false,false,false,false,false,false,false,false,false,false,false,false,false,false,false,false,false,false,false,false,false,false,false,false,false,false,false,false,false,true,true,true,true,true,true,true,true,true,true,false]
        9 _ rfl rfl (by kernel_rfl) (by kernel_rfl) (by kernel_rfl) (by kernel_rfl) (by kernel_rfl) (by kernel_rfl) ?_ ?_ ?_
       ·repeat' (first | exact stable_eq _ | exact stable_true | exact trivial | apply And.intro)
       ·refine ⟨?_,?_,?_,?_,?_,?_,?_,?_,?_,trivial⟩
        all_goals
         intro a' z hb hf
         have e0:=(hb.cell (p:=⟨w.heap.size,j,none⟩) hGl2).trans bj2
         clear hb hTI
         simp only [PlanFacts,List.getD_cons_zero,List.getD_cons_succ,Array.getD_eq_getD_getElem?] at hf
         try simp at hf
         go_simp
         try exact ⟨_,rfl,Below.refl _ _,rfl⟩
         try exact Below.refl _ _
       ·intro f4 y4 hby hwd
        simp only [AllWords,List.take] at hwd
        have q5:=hwd.2.2.2.2.2.1
        have q8:=hwd.2.2.2.2.2.2.2.2.1
        clear hwd
        have HTI:=hide (unhide (hTI y4 hby))
        have HBY:=hide hby
        clear hby hTI
        simp only [mergeT,q5,q8]
        generalize f4 58=u58
        generalize f4 59=u59
        generalize f4 60=u60
        generalize f4 61=u61
        generalize f4 62=u62
        generalize f4 64=u64
        generalize f4 65=u65
        go_simp
        refine (unhide HTI).mono ?_
        rintro r u ⟨v,rfl,ho,htk⟩
        have HTK:=hide htk
        clear ho htk
        go_wp2
        obtain ⟨K2,F2,N2,s1,s2⟩:=unhide HK2
        have hby:=unhide HBY
        have K2y:=K2.below hby
        have htk:=unhide HTK
        have htk2:ShTook y4 u p (4+(j * 3+1) * 2) 116 c2.arr (c2.nv (j * 3+1)) (c2.mv (j * 3+1)) ((sh1 (j * 3+1)).drop (cutAt (sh1 (j * 3+1)) xj)):=by rw [show 4+(j * 3+1) * 2=4+j * 6+2 by omega];exact htk
        have hST:=paAfter F2 N2 s1 s2 ((paStep_sh K2y (i:=j * 3+1) (by omega) (htk2.step (K2.ks.am (j * 3+1) (by omega)))).behind hby)
        have hGn2:=pa_not_cells K2 (unhide HBG2) (by decide) (by decide) (by decide) (by decide) (by decide) (by decide) (by decide)
        obtain ⟨hnj,hXj,hkp,hpn⟩:=unhide HNJ
        obtain ⟨e1,e2⟩:=unhide HEQ
        have hsort:((sh' (j * 3+1)).map (·.1)).Pairwise (· < ·):=by
         have:=(K2.ks.shs (j * 3+1) (by omega)).sorted
         rw [(unhide HS1).1] at this
         have e:(fun t => if t=j * 3 then (sh' (j * 3)).drop nj else sh' t) (j * 3+1)=sh' (j * 3+1):=if_neg (by omega)
         rw [e] at this
         exact this
        have hON:=onAg_drop1 (unhide HOJ) hlt (n:=n j) (by rw [agD_self];exact hnj) hsort
        rw [← agD_succ] at hON
        refine ⟨⟨j+1,by omega,by go_num,?_,fr' ++ (pl' j).take nj,_,(fun t => if t=j then (pl' j).drop nj else pl' t),hST,?_⟩,by simp [intOf];omega⟩
        ·refine htk.far.blk ((hby.block _ hGl2).trans (unhide HBG2)) (fun h => hGn2 ?_)
         rcases h with h | h
         ·exact .inl (.inl h)
         ·exact .inl (.inr (.inr ⟨_,by omega,h⟩))
        ·have hcut:cutAt (sh' (j * 3)) ((a.fl j).base+n j)=n j:=by rw [hkp];exact keptL_cut _ _ _ _ hnj hpn
         rw [agD_self,hcut,← e1,← show xj=(a.fl j).base+nj by rw [e2,e1];exact hXj] at hON
         rw [(unhide HS1).1]
         have e:(fun t => if t=j * 3 then (sh' (j * 3)).drop nj else sh' t) (j * 3+1)=sh' (j * 3+1):=if_neg (by omega)
         rw [e]
         exact { hON with bs:=fun _ _ => rfl }
   ·obtain rfl:j=3:=by omega
    go_wp2
    go_ret
    refine ⟨rfl,X,fr',sh',pl',st2,hP,(unhide HF).1,?_⟩
    rw [agD_three] at hO
    exact { hO with bs:=fun i hi => (unhide HF).2.2.2.2 i hi |>.trans (by simp [Mod.Ag.drop,Mod.dropTo,hi,Mod.Flow.drop]) }
end
end Go.Proofs.YtamafdcnbcoegabGreat
namespace Go.Proofs.YtamafdcnbcoegabGreat
open Go.RowKit
section
variable {w x:World} {p:Nat} {g:Nat→Nat} {tk:Nat} {wel fen:Bool} {free:List Nat} {sh:Nat→List (Nat × Value)} {st:Mod.Stv} {c:Av} {a:Mod.Ag} {pl:Nat→List Nat}
theorem letGo_any (H:PaAt w p g a.ticks a.welcome a.fenced free sh st c) (hs:Sound st) (O:OnAg a st.opening g free sh pl) (n X:Nat→Nat) (hn:∀ i,i < 3→n i ≤ (a.fl i).kept.length) (hX:∀ i,i < 3→X i=(a.fl i).base+n i) (hXm:∀ i,i < 3→X i < 4294967296) :
  Calls Tryz.prog 117 #[ptrTo p,.agg #[.int .i64 (X 0),.int .i64 (X 1),.int .i64 (X 2)]] w fun r z => r = .returned (.int .i64 0)∧AgIs w z p (a.drop n) c:=by
 by_cases h:X 0=g 0∧X 1=g 1∧X 2=g 2
 ·have hXg:∀ i,i < 3→X i=g i:=by
   intro i hi
   obtain rfl | rfl | rfl:i=0 ∨ i=1 ∨ i=2:=by omega
   ·exact h.1
   ·exact h.2.1
   ·exact h.2.2
  have hz:a.drop n=a:=drop_none (fun i hi => by have:=hXg i hi;have:=hX i hi;have:=O.bs i hi;omega)
  rw [hz]
  refine (letGo_same H X hXg).mono ?_
  rintro r z ⟨rfl,hb⟩
  exact ⟨rfl,(agIs_refl H hs O).below hb⟩
 ·exact letGo_some H hs O n X hn hX hXm h
theorem paStep_fen (H:PaAt w p g tk wel fen free sh st c) (v:Bool):PaStep w (w.setCell ⟨p,25,none⟩ (.bool v)) p g tk wel v free sh st c:=by
 have hsz:=H.ks.sz
 refine paStep_cell H 25 (.bool v) (.inr (by omega)) (fun j hj => ?_) ?_ ?_ ?_
 ·rw [Array.getElem?_setIfInBounds_ne (by omega)];exact H.ks.ag j hj
 ·rw [Array.getElem?_setIfInBounds_ne (by omega)];exact H.ks.at'
 ·rw [Array.getElem?_setIfInBounds_ne (by omega)];exact H.ks.aw
 ·have:25 < c.arr.size:=by omega
  simp [this]
theorem paStep_wel (H:PaAt w p g tk wel fen free sh st c) (v:Bool):PaStep w (w.setCell ⟨p,24,none⟩ (.bool v)) p g tk v fen free sh st c:=by
 have hsz:=H.ks.sz
 refine paStep_cell H 24 (.bool v) (.inr (by omega)) (fun j hj => ?_) ?_ ?_ ?_
 ·rw [Array.getElem?_setIfInBounds_ne (by omega)];exact H.ks.ag j hj
 ·rw [Array.getElem?_setIfInBounds_ne (by omega)];exact H.ks.at'
 ·have:24 < c.arr.size:=by omega
  simp [this]
 ·rw [Array.getElem?_setIfInBounds_ne (by omega)];exact H.ks.ae
theorem paStep_tick (H:PaAt w p g tk wel fen free sh st c) (v:Nat):PaStep w (w.setCell ⟨p,23,none⟩ (.int .i64 v)) p g v wel fen free sh st c:=by
 have hsz:=H.ks.sz
 refine paStep_cell H 23 (.int .i64 v) (.inr (by omega)) (fun j hj => ?_) ?_ ?_ ?_
 ·rw [Array.getElem?_setIfInBounds_ne (by omega)];exact H.ks.ag j hj
 ·have:23 < c.arr.size:=by omega
  simp [this]
 ·rw [Array.getElem?_setIfInBounds_ne (by omega)];exact H.ks.aw
 ·rw [Array.getElem?_setIfInBounds_ne (by omega)];exact H.ks.ae
theorem OnAg.flags {op:Nat} (O:OnAg a op g free sh pl) (tk:Nat) (wel fen:Bool):OnAg { a with ticks:=tk,welcome:=wel,fenced:=fen } op g free sh pl :=
 ⟨O.ep,O.bs,O.pn,O.kp,O.sn,O.si,O.hd,O.hu,O.hl,O.nd,O.lt,O.sum⟩
set_option maxRecDepth 100000 in
set_option maxHeartbeats 2000000 in
theorem obeyReset_any (H:PaAt w p g a.ticks a.welcome a.fenced free sh st c) (hs:Sound st) (O:OnAg a st.opening g free sh pl) (e:Nat) (s q:Int) (b:ByteArray) :
  Calls Tryz.prog 78 #[ptrTo p,.agg #[.int .i64 5,.int .i64 e,.int .i64 s,.int .i64 q,.string b]] w fun r z => r = .returned (.int .i64 0)∧AgIs w z p (a.deliver 5 e s q b) c:=by
 have hpl:=lt_of_block H.ks.blk
 have HEP:=fun z (hz:Below w.heap.size w z) => hide (agEpoch_any (H.below hz))
 obtain ⟨ep,hep⟩:∃ ep,ep=a.epoch:=⟨_,rfl⟩
 have hop:st.opening=ep:=by rw [hep];exact O.ep
 rw [hop] at HEP
 have hd:a.deliver 5 e s q b=if ep < e then { a with fenced:=true } else if e=ep then { a with welcome:=false } else a:=by
  unfold Mod.Ag.deliver
  rw [← hep]
  by_cases h1:ep < e
  ·rw [if_pos ⟨rfl,by omega⟩,if_pos h1]
  ·rw [if_neg (by omega),if_neg h1]
   by_cases h2:e=ep
   ·rw [if_neg (by omega),if_pos rfl,if_pos h2]
   ·rw [if_pos (by omega),if_neg h2]
 obtain ⟨a2,ha2⟩:∃ a2,a2=a.deliver 5 e s q b:=⟨_,rfl⟩
 rw [← ha2] at hd ⊢
 have DD:=hide (boxAt_new w #[.int .i64 5,.int .i64 e,.int .i64 s,.int .i64 q,.string b])
 have HH:=hide (And.intro H (And.intro hs O))
 have HD:=hide hd
 clear H hs O hop hep ha2 hd
 unfold ptrTo at *
 go_enter Tryz.func78,Tryz.ntmps78
 go_upto_region 1 with fail
 refine wp_world (BoxAt w #[.int .i64 5,.int .i64 e,.int .i64 s,.int .i64 q,.string b]) (unhide DD) ?_
 clear DD
 intro x X
 have y1:=blk_cell (i:=1) X.box
 simp at y1
 have HE1:=fun n => hide (unhide (HEP (x.drewN n) (X.drewN n).bel))
 have HX:=hide X
 clear X
 have K:=(unhide HH).1.below (unhide HX).bel
 have d25:∀ n,(x.drewN n).cell? ⟨p,25,none⟩=some (.bool a.fenced):=fun n => by show x.cell? _=_;rw [blk_cell K.ks.blk,K.ks.ae]
 have f25:∀ n,(x.drewN n).frozen? ⟨p,25,none⟩=false:=fun n => blk_free (w:=x) (i:=25) K.ks.blk
 have HD5:=hide (And.intro d25 f25)
 have hQ:∀ n,Below w.heap.size w (x.drewN n):=fun n => ((unhide HX).drewN n).bel
 have HQ:=hide hQ
 clear K d25 f25 hQ
 by_cases h1:ep < e
 ·have h1':(ep:Int) < (e:Int):=by omega
  go_quiet (first | (go_at_call 52;exact Calls.quiet_of_same (unhide (HE1 _))))
  have d:=(unhide HD5).1 nq
  have f:=(unhide HD5).2 nq
  go_wp2
  go_ret
  refine ⟨rfl,?_⟩
  rw [unhide HD,if_pos h1]
  exact ⟨g,free,sh,pl,st,(paStep_fen ((unhide HH).1.below ((unhide HQ) nq)) true).behind ((unhide HQ) nq),(unhide HH).2.1,(unhide HH).2.2.flags a.ticks a.welcome true⟩
 ·have h1':¬ (ep:Int) < (e:Int):=by omega
  go_quiet (first | (go_at_call 52;exact Calls.quiet_of_same (unhide (HE1 _))))
  go_upto_region 3 with fail
  refine wp_world (BoxAt w #[.int .i64 5,.int .i64 e,.int .i64 s,.int .i64 q,.string b]) ((unhide HX).drewN _) ?_
  clear HX y1 HE1 HD5 HQ
  intro x X
  have y1:=blk_cell (i:=1) X.box
  simp at y1
  have HE1:=fun n => hide (unhide (HEP (x.drewN n) (X.drewN n).bel))
  have K:=(unhide HH).1.below X.bel
  have d24:∀ n,(x.drewN n).cell? ⟨p,24,none⟩=some (.bool a.welcome):=fun n => by show x.cell? _=_;rw [blk_cell K.ks.blk,K.ks.aw]
  have f24:∀ n,(x.drewN n).frozen? ⟨p,24,none⟩=false:=fun n => blk_free (w:=x) (i:=24) K.ks.blk
  have hQ:∀ n,Below w.heap.size w (x.drewN n):=fun n => (X.drewN n).bel
  have HQ:=hide hQ
  have HD5:=hide (And.intro d24 f24)
  clear K d24 f24 X hQ
  by_cases h2:e=ep
  ·have h2':((e:Int) == (ep:Int))=true:=by simp [h2]
   go_quiet (first | (go_at_call 52;exact Calls.quiet_of_same (unhide (HE1 _))))
   have d:=(unhide HD5).1 nq
   have f:=(unhide HD5).2 nq
   go_wp2
   go_ret
   refine ⟨rfl,?_⟩
   rw [unhide HD,if_neg h1,if_pos h2]
   exact ⟨g,free,sh,pl,st,(paStep_wel ((unhide HH).1.below ((unhide HQ) nq)) false).behind ((unhide HQ) nq),(unhide HH).2.1,(unhide HH).2.2.flags a.ticks false a.fenced⟩
  ·have h2':((e:Int) == (ep:Int))=false:=by simp;omega
   go_quiet (first | (go_at_call 52;exact Calls.quiet_of_same (unhide (HE1 _))))
   go_wp2
   go_ret
   refine ⟨rfl,?_⟩
   rw [unhide HD,if_neg h1,if_neg h2]
   exact (agIs_refl (unhide HH).1 (unhide HH).2.1 (unhide HH).2.2).below ((unhide HQ) nq)
end
end Go.Proofs.YtamafdcnbcoegabGreat
namespace Go.Proofs.YtamafdcnbcoegabGreat
open Go.RowKit
def clr (sh:Nat→List (Nat × Value)) (j:Nat) (t:Nat):List (Nat × Value):=if t % 3 ≠ 0∧t < j * 3 then [] else sh t
theorem clr_zero (sh:Nat→List (Nat × Value)):clr sh 0=sh:=by funext t;unfold clr;rw [if_neg (by omega)]
theorem clr_next (sh:Nat→List (Nat × Value)) (j:Nat):(fun t => if t=j * 3+2 then ([]:List (Nat × Value)) else (fun t => if t=j * 3+1 then [] else clr sh j t) t)=clr sh (j+1):=by
 funext t
 unfold clr
 by_cases h1:t=j * 3+2
 ·rw [if_pos h1,if_pos (by omega)]
 ·rw [if_neg h1]
  show (if t=j * 3+1 then ([]:List (Nat × Value)) else _)=_
  by_cases h2:t=j * 3+1
  ·rw [if_pos h2,if_pos (by omega)]
  ·rw [if_neg h2]
   by_cases h3:t % 3 ≠ 0∧t < j * 3
   ·rw [if_pos h3,if_pos (by omega)]
   ·rw [if_neg h3,if_neg (by omega)]
section
variable {w:World} {p:Nat} {g:Nat→Nat} {free:List Nat} {sh:Nat→List (Nat × Value)} {st:Mod.Stv} {c:Av} {a:Mod.Ag} {op:Nat} {pl:Nat→List Nat}
theorem onAg_fresh (O:OnAg a op g free sh pl):OnAg { a with welcome:=true,fl:=Mod.fresh a.fl 3 } op g free (clr sh 3) pl:=by
 have hfl:∀ i,i < 3→Mod.fresh a.fl 3 i = { a.fl i with kept:=(a.fl i).kept.map fun r => (r.1,0),held:=[] }:=fun i hi => by unfold Mod.fresh;rw [if_pos hi]
 refine ⟨O.ep,fun i hi => ?_,fun i hi => ?_,fun i hi => ?_,fun i hi n => ?_,fun i hi => ?_,fun i hi n => ?_,fun i hi => ?_,fun i hi => ?_,O.nd,O.lt,?_⟩
 ·show g i=(Mod.fresh a.fl 3 i).base
  rw [hfl i hi];exact O.bs i hi
 ·show (pl i).length=(Mod.fresh a.fl 3 i).kept.length
  rw [hfl i hi];simpa using O.pn i hi
 ·show clr sh 3 (i * 3)=keptL (Mod.fresh a.fl 3 i).base (Mod.fresh a.fl 3 i).kept (pl i)
  unfold clr
  rw [if_neg (by omega),hfl i hi,O.kp i hi]
  exact keptL_same _ _ _ _ (by simp)
 ·show look (clr sh 3 (i * 3+1)) _=sentF (Mod.fresh a.fl 3 i) n
  unfold clr
  rw [if_pos (by omega),hfl i hi]
  unfold sentF
  simp only
  split
  ·rfl
  ·cases h:((a.fl i).kept.map fun r => (r.1,0))[n - (a.fl i).base - 1]? with
   | none => rfl
   | some x =>
    rw [List.getElem?_map] at h
    cases hk:(a.fl i).kept[n - (a.fl i).base - 1]? with
    | none => rw [hk] at h;cases h
    | some y => rw [hk] at h;cases h;rfl
 ·show AreI (clr sh 3 (i * 3+1))
  unfold clr
  rw [if_pos (by omega)]
  intro x hx;cases hx
 ·show (look (clr sh 3 (i * 3+2)) _).isSome=(Mod.fresh a.fl 3 i).held.contains n
  unfold clr
  rw [if_pos (by omega),hfl i hi]
  rfl
 ·show AreU (clr sh 3 (i * 3+2))
  unfold clr
  rw [if_pos (by omega)]
  intro x hx;cases hx
 ·show (clr sh 3 (i * 3+2)).length ≤ 3
  unfold clr
  rw [if_pos (by omega)]
  simp
 ·have h:=O.sum
  have h2:Mod.Ag.room { a with welcome:=true,fl:=Mod.fresh a.fl 3 } = a.room:=by
   simp [Mod.Ag.room,Mod.fresh]
  rw [h2]
  exact h
theorem wel_max (b l:Nat) (n:Int):max (b:Int) (min n ((b+l:Nat):Int))=((b+min (n - b).toNat l:Nat):Int):=by omega
set_option maxRecDepth 100000 in
set_option maxHeartbeats 4000000 in
theorem obeyWelcome_no (H:PaAt w p g a.ticks a.welcome a.fenced free sh st c) (O:OnAg a st.opening g free sh pl) (e:Nat) (s q:Int) (b:ByteArray) (he:e ≠ a.epoch) :
  Calls Tryz.prog 76 #[ptrTo p,.agg #[.int .i64 2,.int .i64 e,.int .i64 s,.int .i64 q,.string b]] w fun r z => r = .returned (.int .i64 0)∧Below w.heap.size w z:=by
 have HEP:=fun z (hz:Below w.heap.size w z) => hide (agEpoch_any (H.below hz))
 obtain ⟨ep,hep⟩:∃ ep,ep=a.epoch:=⟨_,rfl⟩
 have hop:st.opening=ep:=by rw [hep];exact O.ep
 rw [hop] at HEP
 rw [← hep] at he
 have DD:=hide (boxAt_new w #[.int .i64 2,.int .i64 e,.int .i64 s,.int .i64 q,.string b])
 have hne:((e:Int) != (ep:Int))=true:=by simp;omega
 clear H O hop hep
 unfold ptrTo at *
 go_enter Tryz.func76,Tryz.ntmps76
 go_upto_region 1 with fail
 refine wp_world (BoxAt w #[.int .i64 2,.int .i64 e,.int .i64 s,.int .i64 q,.string b]) (unhide DD) ?_
 clear DD
 intro x X
 have y1:=blk_cell (i:=1) X.box
 simp at y1
 have HE1:=fun n => hide (unhide (HEP (x.drewN n) (X.drewN n).bel))
 have HX:=hide X
 clear X
 go_quiet (first | (go_at_call 52;exact Calls.quiet_of_same (unhide (HE1 _))))
 go_wp2
 go_ret
 exact ⟨rfl,((unhide HX).drewN _).bel⟩
set_option maxRecDepth 100000 in
set_option maxHeartbeats 8000000 in
theorem obeyWelcome_yes (H:PaAt w p g a.ticks a.welcome a.fenced free sh st c) (hs:Sound st) (O:OnAg a st.opening g free sh pl) (e:Nat) (s q:Int) (b:ByteArray) (he:e=a.epoch) (h12:b.size=12) (hbnd:∀ i,i < 3→(a.fl i).base+(a.fl i).kept.length < 4294967296) :
  Calls Tryz.prog 76 #[ptrTo p,.agg #[.int .i64 2,.int .i64 e,.int .i64 s,.int .i64 q,.string b]] w fun r z => r = .returned (.int .i64 0)∧AgIs w z p (a.deliver 2 e s q b) c:=by
 have hpl:=lt_of_block H.ks.blk
 have HEP:=fun z (hz:Below w.heap.size w z) => hide (agEpoch_any (H.below hz))
 obtain ⟨n,hn⟩:∃ n,n=a.says 2 e s q b:=⟨_,rfl⟩
 have hd:a.deliver 2 e s q b = { a.drop n with welcome:=true,fl:=Mod.fresh (a.drop n).fl 3 }:=by
  unfold Mod.Ag.deliver
  rw [if_neg (by omega),if_neg (by omega),if_neg (by omega),if_pos rfl,hn]
 have hnl:∀ i,i < 3→n i ≤ (a.fl i).kept.length:=fun i _ => by rw [hn];exact says_le _ _ _ _ _ _ _
 have hni:∀ i,n i=min (Wire.numAt b.data.toList (4 * i) - (a.fl i).base).toNat (a.fl i).kept.length:=fun i => by
  rw [hn]
  unfold Mod.Ag.says
  rw [if_neg (by omega),if_pos rfl]
  rfl
 obtain ⟨X,hX⟩:∃ X:Nat→Nat,X=fun i => (a.fl i).base+n i:=⟨_,rfl⟩
 have hmx:∀ i,max ((a.fl i).base:Int) (min (Wire.numAt b.data.toList (4 * i)) (((a.fl i).base+(a.fl i).kept.length:Nat):Int))=(X i:Int):=fun i => by
  rw [wel_max,hX]
  show _=(((a.fl i).base+n i:Nat):Int)
  rw [hni i]
 have hLG:=fun z (hz:Below w.heap.size w z) => letGo_any (H.below hz) hs O n X hnl (fun i _ => by rw [hX]) (fun i hi => by have:=hbnd i hi;have:=hnl i hi;rw [hX];show (a.fl i).base+n i < _;omega)
 have hCM:=fun z => Committed_any b z h12
 have hLs:=fun i (hi:i < 3) z (hz:Below w.heap.size w z) => agLast_any (H.below hz) O hi (O.bs i hi)
 have q0:w.cell? ⟨p,1,none⟩=some (.int .i64 (a.fl 0).base):=by rw [blk_cell H.ks.blk,← O.bs 0 (by omega)];exact H.ks.ag 0 (by omega)
 have q1:w.cell? ⟨p,2,none⟩=some (.int .i64 (a.fl 1).base):=by rw [blk_cell H.ks.blk,← O.bs 1 (by omega)];exact H.ks.ag 1 (by omega)
 have q2:w.cell? ⟨p,3,none⟩=some (.int .i64 (a.fl 2).base):=by rw [blk_cell H.ks.blk,← O.bs 2 (by omega)];exact H.ks.ag 2 (by omega)
 have HL0:=fun z hz => hide (hLs 0 (by omega) z hz)
 have HL1:=fun z hz => hide (hLs 1 (by omega) z hz)
 have HL2:=fun z hz => hide (hLs 2 (by omega) z hz)
 have m0:=hmx 0
 have m1:=hmx 1
 have m2:=hmx 2
 simp only [Nat.mul_zero,Nat.mul_one,show 4 * 2=8 from rfl] at m0 m1 m2
 have HCM:=fun z => hide (hCM z)
 generalize Wire.numAt b.data.toList 0=n0 at *
 generalize Wire.numAt b.data.toList 4=n1 at *
 generalize Wire.numAt b.data.toList 8=n2 at *
 have HLG:=fun z hz => hide (hLG z hz)
 obtain ⟨x0,hx0⟩:∃ x,x=X 0:=⟨_,rfl⟩
 obtain ⟨x1,hx1⟩:∃ x,x=X 1:=⟨_,rfl⟩
 obtain ⟨x2,hx2⟩:∃ x,x=X 2:=⟨_,rfl⟩
 rw [← hx0] at m0
 rw [← hx1] at m1
 rw [← hx2] at m2
 rw [← hx0,← hx1,← hx2] at HLG
 obtain ⟨b0,hb0⟩:∃ v,v=(a.fl 0).base+(a.fl 0).kept.length:=⟨_,rfl⟩
 obtain ⟨b1,hb1⟩:∃ v,v=(a.fl 1).base+(a.fl 1).kept.length:=⟨_,rfl⟩
 obtain ⟨b2,hb2⟩:∃ v,v=(a.fl 2).base+(a.fl 2).kept.length:=⟨_,rfl⟩
 rw [← hb0] at m0 HL0
 rw [← hb1] at m1 HL1
 rw [← hb2] at m2 HL2
 obtain ⟨g0,hg0⟩:∃ v,v=(a.fl 0).base:=⟨_,rfl⟩
 obtain ⟨g1,hg1⟩:∃ v,v=(a.fl 1).base:=⟨_,rfl⟩
 obtain ⟨g2,hg2⟩:∃ v,v=(a.fl 2).base:=⟨_,rfl⟩
 rw [← hg0] at m0 q0
 rw [← hg1] at m1 q1
 rw [← hg2] at m2 q2
 simp only [show ((0:Nat):Int)=0 from rfl,show ((1:Nat):Int)=1 from rfl,show ((2:Nat):Int)=2 from rfl] at HL0 HL1 HL2
 obtain ⟨ep,hep⟩:∃ ep,ep=a.epoch:=⟨_,rfl⟩
 have hop:st.opening=ep:=by rw [hep];exact O.ep
 rw [hop] at HEP
 have hne:((e:Int) != (ep:Int))=false:=by simp;omega
 obtain ⟨a2,ha2⟩:∃ a2,a2=a.deliver 2 e s q b:=⟨_,rfl⟩
 rw [← ha2] at hd ⊢
 obtain ⟨a1,ha1⟩:∃ a1,a1=a.drop n:=⟨_,rfl⟩
 rw [← ha1] at hd HLG
 have HD:=hide hd
 have DD:=hide (boxAt_new w #[.int .i64 2,.int .i64 e,.int .i64 s,.int .i64 q,.string b])
 have i0:∀ w:World,(Instr.index 35 (.agg #[.int .i64 n0,.int .i64 n1,.int .i64 n2]) (.int .i64 0)).run Tryz.prog w = .ok (.int .i64 n0) w:=fun _ => by kernel_rfl
 have i1:∀ w:World,(Instr.index 35 (.agg #[.int .i64 n0,.int .i64 n1,.int .i64 n2]) (.int .i64 1)).run Tryz.prog w = .ok (.int .i64 n1) w:=fun _ => by kernel_rfl
 have i2:∀ w:World,(Instr.index 35 (.agg #[.int .i64 n0,.int .i64 n1,.int .i64 n2]) (.int .i64 2)).run Tryz.prog w = .ok (.int .i64 n2) w:=fun _ => by kernel_rfl
 clear H O hs hn hd hnl hni hX hmx hLG hCM hLs hx0 hx1 hx2 hb0 hb1 hb2 hg0 hg1 hg2 hop hep ha2 ha1 he h12 hbnd
 unfold ptrTo at *
 go_enter Tryz.func76,Tryz.ntmps76
 go_upto_region 1 with fail
 refine wp_world (BoxAt w #[.int .i64 2,.int .i64 e,.int .i64 s,.int .i64 q,.string b]) (unhide DD) ?_
 clear DD
 intro x X9
 have y1:=blk_cell (i:=1) X9.box
 simp at y1
 have HE1:=fun n => hide (unhide (HEP (x.drewN n) (X9.drewN n).bel))
 have HX:=hide X9
 clear X9
 go_quiet (first | (go_at_call 52;exact Calls.quiet_of_same (unhide (HE1 _))))
 go_upto_region 3 with fail
 refine wp_world (BoxAt w #[.int .i64 2,.int .i64 e,.int .i64 s,.int .i64 q,.string b]) ((unhide HX).drewN _) ?_
 clear HX y1 HE1
 intro x X9
 have y4:=blk_cell (i:=4) X9.box
 simp at y4
 have d0:=(X9.bel.cell (p:=⟨p,1,none⟩) hpl).trans q0
 have d1:=(X9.bel.cell (p:=⟨p,2,none⟩) hpl).trans q1
 have d2:=(X9.bel.cell (p:=⟨p,3,none⟩) hpl).trans q2
 have hxl:=X9.lt
 have HX:=hide X9
 clear X9 q0 q1 q2
 go_upto_region 4 with fail
 obtain ⟨g5,hg5⟩:∃ g5,g5=x.heap.size:=⟨_,rfl⟩
 have HG5:=hide hg5
 have hg5w:w.heap.size ≤ g5:=by have:=(unhide HX).bel.size;omega
 rw [← hg5]
 have hpg5:¬ w.heap.size=g5:=by omega
 clear hg5
 refine wp_world (fun y => y.heap[g5]? = some (.cells #[.int .i64 g0,.int .i64 g1,.int .i64 g2] 100 (0,0))∧BoxAt w #[.int .i64 2,.int .i64 e,.int .i64 s,.int .i64 q,.string b] y) ?_ ?_
 ·rw [unhide HG5]
  exact ⟨heap_alloc_new _ _,(unhide HX).below ((Below.refl _ _).alloc (Nat.le_refl _) _)⟩
 clear HX HG5 y4 d0 d1 d2 hxl
 rintro y ⟨h5,X9⟩
 have y4:=blk_cell (i:=4) X9.box
 simp at y4
 have HY:=hide (And.intro h5 X9)
 clear h5 X9
 go_upto_region 5 with (go_at_call 116;refine (unhide (HCM _)).mono ?_;rintro r z ⟨rfl,hb⟩)
 have h5z:=(hb.block _ (lt_of_block (unhide HY).1)).trans (unhide HY).1
 have hbz:=(unhide HY).2.bel.trans (hb.mono (unhide HY).2.bel.size)
 have HZ:=hide (And.intro h5z hbz)
 clear hb h5z hbz HY y4
 go_loopw [6,7,22] (fun _ _ i wr => ∃ j:Nat,j ≤ 3∧i = .int .i64 j∧wr.heap[g5]? = some (.cells #[.int .i64 (if 0 < j then x0 else g0:Nat),.int .i64 (if 1 < j then x1 else g1:Nat),.int .i64 (if 2 < j then x2 else g2:Nat)] 100 (0,0))∧Below w.heap.size w wr) (fun _ _ i _ => 3 - (intOf i).toNat)
 case atStart =>
  obtain ⟨h1,h2⟩:=unhide HZ
  exact ⟨0,by omega,rfl,by simpa using h1,h2⟩
 case round =>
  obtain ⟨j,hj,rfl,h5,hbw⟩:=hrel
  clear HZ
  have e0:=blk_cell (i:=0) h5
  have e1:=blk_cell (i:=1) h5
  have e2:=blk_cell (i:=2) h5
  have h5l:=lt_of_block h5
  have H5:=hide h5
  have HBW:=hide hbw
  clear h5 hbw
  rcases (show j=0 ∨ j=1 ∨ j=2 ∨ j=3 by omega) with rfl | rfl | rfl | rfl
  ·simp at e0
   go_wp2_with fail
   refine wp_region_last (by kernel_rfl)
    [fun v _ => v = .int .i64 0,fun v _ => v = .int .i64 0,fun v _ => v = .pointer (some ⟨g5,0,none⟩),fun v _ => v = .int .i64 g0,fun v _ => v = .int .i64 n0,fun v _ => v = .pointer (some ⟨p,0,none⟩),fun v _ => v = .int .i64 0,fun v _ => v = .int .i64 b0,fun v _ => v = .int .i64 (min n0 (b0:Int)),fun v _ => v = .int .i64 x0,fun v _ => v = .pointer (some ⟨g5,0,none⟩),fun _ _ => True]
    [[(6,none)],[(6,none)],[(5,none),(27,some 1)],[(28,some 2)],[(7,none)],[(0,none)],[(6,none)],[(31,some 5),(32,some 6)],[(30,some 4),(33,some 7)],[(29,some 3),(34,some 8)],[(5,none),(26,some 0)],[(36,some 10),(35,some 9)]] [some 26,some 27,some 28,some 29,some 30,some 31,some 32,some 33,some 34,some 35,some 36,none] [false,false,false,false,false,false,false,false,false,false,false,false,false,false,false,false,false,false,false,false,false,false,false,false,false,false,true,true,true,true,true,true,true,true,true,true,true,false,false,false,false,false,false,false,false,false,false,false,false,false,false,false,false,false,false,false,false,false,false,false,false,false,false,false,false]
    11 _ rfl rfl (by kernel_rfl) (by kernel_rfl) (by kernel_rfl) (by kernel_rfl) (by kernel_rfl) (by kernel_rfl) ?_ ?_ ?_
   ·repeat' (first | exact stable_eq _ | exact stable_true | exact trivial | apply And.intro)
   ·refine ⟨?_,?_,?_,?_,?_,?_,?_,?_,?_,?_,?_,trivial⟩
    all_goals
     intro a' z hb hf
     have d0:=(hb.cell (p:=⟨g5,0,none⟩) h5l).trans e0
     have HL:=hide (unhide (HL0 z ((unhide HBW).trans (hb.mono (unhide HBW).size))))
     clear hb
     simp only [PlanFacts,List.getD_cons_zero,List.getD_cons_succ,Array.getD_eq_getD_getElem?] at hf
     try simp at hf
     go_simp
     try exact ⟨_,rfl,Below.refl _ _,rfl⟩
     try exact Below.refl _ _
    all_goals first
     | (refine (unhide HL).mono ?_;rintro r z2 ⟨rfl,q,rfl⟩;exact ⟨rfl,below_drewN (Below.refl _ _) q⟩)
     | (refine (unhide HL).mono ?_;rintro r z2 ⟨rfl,q,rfl⟩;exact ⟨_,rfl,below_drewN (Below.refl _ _) q,rfl⟩)
     | skip
   ·intro f z hby hwd
    simp only [AllWords,List.take] at hwd
    have q9:=hwd.2.2.2.2.2.2.2.2.2.1
    have q10:=hwd.2.2.2.2.2.2.2.2.2.2.1
    clear hwd
    have z5:=(hby.block _ h5l).trans (unhide H5)
    have d0:=(hby.cell (p:=⟨g5,0,none⟩) h5l).trans e0
    have f0:=blk_free (i:=0) z5
    have HZ5:=hide z5
    have HBZ:=hide ((unhide HBW).trans (hby.mono (unhide HBW).size))
    clear hby z5
    simp only [mergeT,q9,q10]
    generalize f 26=v26
    generalize f 27=v27
    generalize f 28=v28
    generalize f 29=v29
    generalize f 30=v30
    generalize f 31=v31
    generalize f 32=v32
    generalize f 33=v33
    generalize f 34=v34
    go_simp
    go_wp2
    refine ⟨⟨1,by omega,by go_num,?_,?_⟩,by simp [intOf]⟩
    ·have:=blk_set (j:=0) (v:=.int .i64 x0) (unhide HZ5)
     simpa using this
    ·exact (unhide HBZ).setCell (p:=⟨g5,0,none⟩) hg5w _
  ·simp at e1
   go_wp2_with fail
   refine wp_region_last (by kernel_rfl)
    [fun v _ => v = .int .i64 1,fun v _ => v = .int .i64 1,fun v _ => v = .pointer (some ⟨g5,1,none⟩),fun v _ => v = .int .i64 g1,fun v _ => v = .int .i64 n1,fun v _ => v = .pointer (some ⟨p,0,none⟩),fun v _ => v = .int .i64 1,fun v _ => v = .int .i64 b1,fun v _ => v = .int .i64 (min n1 (b1:Int)),fun v _ => v = .int .i64 x1,fun v _ => v = .pointer (some ⟨g5,1,none⟩),fun _ _ => True]
    [[(6,none)],[(6,none)],[(5,none),(27,some 1)],[(28,some 2)],[(7,none)],[(0,none)],[(6,none)],[(31,some 5),(32,some 6)],[(30,some 4),(33,some 7)],[(29,some 3),(34,some 8)],[(5,none),(26,some 0)],[(36,some 10),(35,some 9)]] [some 26,some 27,some 28,some 29,some 30,some 31,some 32,some 33,some 34,some 35,some 36,none] [false,false,false,false,false,false,false,false,false,false,false,false,false,false,false,false,false,false,false,false,false,false,false,false,false,false,true,true,true,true,true,true,true,true,true,true,true,false,false,false,false,false,false,false,false,false,false,false,false,false,false,false,false,false,false,false,false,false,false,false,false,false,false,false,false]
    11 _ rfl rfl (by kernel_rfl) (by kernel_rfl) (by kernel_rfl) (by kernel_rfl) (by kernel_rfl) (by kernel_rfl) ?_ ?_ ?_
   ·repeat' (first | exact stable_eq _ | exact stable_true | exact trivial | apply And.intro)
   ·refine ⟨?_,?_,?_,?_,?_,?_,?_,?_,?_,?_,?_,trivial⟩
    all_goals
     intro a' z hb hf
     have d1:=(hb.cell (p:=⟨g5,1,none⟩) h5l).trans e1
     have HL:=hide (unhide (HL1 z ((unhide HBW).trans (hb.mono (unhide HBW).size))))
     clear hb
     simp only [PlanFacts,List.getD_cons_zero,List.getD_cons_succ,Array.getD_eq_getD_getElem?] at hf
     try simp at hf
     go_simp
     try exact ⟨_,rfl,Below.refl _ _,rfl⟩
     try exact Below.refl _ _
    all_goals first
     | (refine (unhide HL).mono ?_;rintro r z2 ⟨rfl,q,rfl⟩;exact ⟨rfl,below_drewN (Below.refl _ _) q⟩)
     | (refine (unhide HL).mono ?_;rintro r z2 ⟨rfl,q,rfl⟩;exact ⟨_,rfl,below_drewN (Below.refl _ _) q,rfl⟩)
     | skip
   ·intro f z hby hwd
    simp only [AllWords,List.take] at hwd
    have q9:=hwd.2.2.2.2.2.2.2.2.2.1
    have q10:=hwd.2.2.2.2.2.2.2.2.2.2.1
    clear hwd
    have z5:=(hby.block _ h5l).trans (unhide H5)
    have d1:=(hby.cell (p:=⟨g5,1,none⟩) h5l).trans e1
    have f1:=blk_free (i:=1) z5
    have HZ5:=hide z5
    have HBZ:=hide ((unhide HBW).trans (hby.mono (unhide HBW).size))
    clear hby z5
    simp only [mergeT,q9,q10]
    generalize f 26=v26
    generalize f 27=v27
    generalize f 28=v28
    generalize f 29=v29
    generalize f 30=v30
    generalize f 31=v31
    generalize f 32=v32
    generalize f 33=v33
    generalize f 34=v34
    go_simp
    go_wp2
    refine ⟨⟨2,by omega,by go_num,?_,?_⟩,by simp [intOf]⟩
    ·have:=blk_set (j:=1) (v:=.int .i64 x1) (unhide HZ5)
     simpa using this
    ·exact (unhide HBZ).setCell (p:=⟨g5,1,none⟩) hg5w _
  ·simp at e2
   go_wp2_with fail
   refine wp_region_last (by kernel_rfl)
    [fun v _ => v = .int .i64 2,fun v _ => v = .int .i64 2,fun v _ => v = .pointer (some ⟨g5,2,none⟩),fun v _ => v = .int .i64 g2,fun v _ => v = .int .i64 n2,fun v _ => v = .pointer (some ⟨p,0,none⟩),fun v _ => v = .int .i64 2,fun v _ => v = .int .i64 b2,fun v _ => v = .int .i64 (min n2 (b2:Int)),fun v _ => v = .int .i64 x2,fun v _ => v = .pointer (some ⟨g5,2,none⟩),fun _ _ => True]
    [[(6,none)],[(6,none)],[(5,none),(27,some 1)],[(28,some 2)],[(7,none)],[(0,none)],[(6,none)],[(31,some 5),(32,some 6)],[(30,some 4),(33,some 7)],[(29,some 3),(34,some 8)],[(5,none),(26,some 0)],[(36,some 10),(35,some 9)]] [some 26,some 27,some 28,some 29,some 30,some 31,some 32,some 33,some 34,some 35,some 36,none] [false,false,false,false,false,false,false,false,false,false,false,false,false,false,false,false,false,false,false,false,false,false,false,false,false,false,true,true,true,true,true,true,true,true,true,true,true,false,false,false,false,false,false,false,false,false,false,false,false,false,false,false,false,false,false,false,false,false,false,false,false,false,false,false,false]
    11 _ rfl rfl (by kernel_rfl) (by kernel_rfl) (by kernel_rfl) (by kernel_rfl) (by kernel_rfl) (by kernel_rfl) ?_ ?_ ?_
   ·repeat' (first | exact stable_eq _ | exact stable_true | exact trivial | apply And.intro)
   ·refine ⟨?_,?_,?_,?_,?_,?_,?_,?_,?_,?_,?_,trivial⟩
    all_goals
     intro a' z hb hf
     have d2:=(hb.cell (p:=⟨g5,2,none⟩) h5l).trans e2
     have HL:=hide (unhide (HL2 z ((unhide HBW).trans (hb.mono (unhide HBW).size))))
     clear hb
     simp only [PlanFacts,List.getD_cons_zero,List.getD_cons_succ,Array.getD_eq_getD_getElem?] at hf
     try simp at hf
     go_simp
     try exact ⟨_,rfl,Below.refl _ _,rfl⟩
     try exact Below.refl _ _
    all_goals first
     | (refine (unhide HL).mono ?_;rintro r z2 ⟨rfl,q,rfl⟩;exact ⟨rfl,below_drewN (Below.refl _ _) q⟩)
     | (refine (unhide HL).mono ?_;rintro r z2 ⟨rfl,q,rfl⟩;exact ⟨_,rfl,below_drewN (Below.refl _ _) q,rfl⟩)
     | skip
   ·intro f z hby hwd
    simp only [AllWords,List.take] at hwd
    have q9:=hwd.2.2.2.2.2.2.2.2.2.1
    have q10:=hwd.2.2.2.2.2.2.2.2.2.2.1
    clear hwd
    have z5:=(hby.block _ h5l).trans (unhide H5)
    have d2:=(hby.cell (p:=⟨g5,2,none⟩) h5l).trans e2
    have f2:=blk_free (i:=2) z5
    have HZ5:=hide z5
    have HBZ:=hide ((unhide HBW).trans (hby.mono (unhide HBW).size))
    clear hby z5
    simp only [mergeT,q9,q10]
    generalize f 26=v26
    generalize f 27=v27
    generalize f 28=v28
    generalize f 29=v29
    generalize f 30=v30
    generalize f 31=v31
    generalize f 32=v32
    generalize f 33=v33
    generalize f 34=v34
    go_simp
    go_wp2
    refine ⟨⟨3,by omega,by go_num,?_,?_⟩,by simp [intOf]⟩
    ·have:=blk_set (j:=2) (v:=.int .i64 x2) (unhide HZ5)
     simpa using this
    ·exact (unhide HBZ).setCell (p:=⟨g5,2,none⟩) hg5w _
  ·simp at e0 e1 e2
   have HLX:=hide (unhide (HLG wr (unhide HBW)))
   clear HLG HL0 HL1 HL2 i0 i1 i2 m0 m1 m2
   go_upto_region 12 with (go_at_call 117;refine (unhide HLX).mono ?_;rintro r y ⟨rfl,hag⟩)
   obtain ⟨gg,fr1,sh1,pl1,st1,hP1,hs1,hO1⟩:=hag
   have HP1:=hide (hP1.behind (unhide HBW))
   have HO1:=hide (And.intro hs1 hO1)
   clear hP1 hs1 hO1 HLX e0 e1 e2 H5
   go_wp2
   go_loopw [9,44] (fun _ i wr => ∃ j:Nat,j ≤ 3∧i = .int .i64 j∧PaStep w wr p gg a1.ticks a1.welcome a1.fenced fr1 (clr sh1 j) st1 c) (fun _ i _ => 3 - (intOf i).toNat)
   case atStart => exact ⟨0,by omega,rfl,by rw [clr_zero];exact unhide HP1⟩
   case round =>
    obtain ⟨j,hj,rfl,hP⟩:=hrel
    clear HP1
    by_cases hlt:j < 3
    ·obtain ⟨c1,K1,F1,N1,t1,t2⟩:=hP
     have hC1:=clearI_any (K1.shAt (i:=j * 3+1) (by omega))
     rw [show 4+(j * 3+1) * 2=4+j * 6+2 by omega] at hC1
     have HC1:=hide hC1
     have HK1:=hide (And.intro K1 (And.intro F1 (And.intro N1 (And.intro t1 t2))))
     have hj0:(0:Int) ≤ (j:Int):=by omega
     have hj3:(j:Int) < 3:=by omega
     clear K1 F1 N1 t1 t2 hC1
     go_upto_region 16 with (go_at_call 118;refine (unhide HC1).mono ?_;rintro r y ⟨rfl,hst⟩)
     obtain ⟨K1,F1,N1,t1,t2⟩:=unhide HK1
     have hst2:ShStep wr y p (4+(j * 3+1) * 2) 116 c1.arr (c1.nv (j * 3+1)) (c1.mv (j * 3+1)) []:=by rw [show 4+(j * 3+1) * 2=4+j * 6+2 by omega];exact hst
     obtain ⟨c2,K2,F2,N2,s1,s2⟩:=paAfter F1 N1 t1 t2 (paStep_sh K1 (i:=j * 3+1) (by omega) hst2)
     have hC2:=clearU_any (K2.shAt (i:=j * 3+2) (by omega))
     rw [show 4+(j * 3+2) * 2=4+j * 6+4 by omega] at hC2
     have HC2:=hide hC2
     have HK2:=hide (And.intro K2 (And.intro F2 (And.intro N2 (And.intro s1 s2))))
     clear K1 F1 N1 t1 t2 K2 F2 N2 s1 s2 hC2 hst hst2 HK1 HC1
     go_wp2_with (go_at_call 119;refine (unhide HC2).mono ?_;rintro r z ⟨rfl,hst⟩)
     obtain ⟨K2,F2,N2,s1,s2⟩:=unhide HK2
     have hst2:ShStep y z p (4+(j * 3+2) * 2) 116 c2.arr (c2.nv (j * 3+2)) (c2.mv (j * 3+2)) []:=by rw [show 4+(j * 3+2) * 2=4+j * 6+4 by omega];exact hst
     have hP3:=paAfter F2 N2 s1 s2 (paStep_sh K2 (i:=j * 3+2) (by omega) hst2)
     rw [clr_next] at hP3
     exact ⟨⟨j+1,by omega,by go_num,hP3⟩,by simp [intOf];omega⟩
    ·obtain rfl:j=3:=by omega
     obtain ⟨c1,K1,_⟩:=id hP
     have f24:=blk_free (i:=24) K1.ks.blk
     have d24:wr.cell? ⟨p,24,none⟩=some (.bool a1.welcome):=by rw [blk_cell K1.ks.blk,K1.ks.aw]
     have HP:=hide (hP.trans (fun c' h => paStep_wel h true))
     clear hP K1
     go_wp2
     go_ret
     refine ⟨rfl,?_⟩
     rw [unhide HD]
     exact ⟨gg,fr1,clr sh1 3,pl1,st1,unhide HP,(unhide HO1).1,onAg_fresh (unhide HO1).2⟩
end
end Go.Proofs.YtamafdcnbcoegabGreat
namespace Go.Proofs.YtamafdcnbcoegabGreat
open Go.RowKit
theorem snoc_ind {P:List Nat→Prop} (h0:P []) (h1:∀ l n,P l→P (l ++ [n])) (l:List Nat):P l:=by
 have H:∀ (k:Nat) (l:List Nat),l.length=k→P l:=by
  intro k
  induction k with
  | zero => intro l hl;rw [List.length_eq_zero_iff.1 hl];exact h0
  | succ k ih =>
   intro l hl
   rcases List.eq_nil_or_concat l with rfl | ⟨l',n,rfl⟩
   ·simp at hl
   ·rw [List.concat_eq_append]
    exact h1 _ _ (ih _ (by simpa using hl))
 exact H _ l rfl
theorem heldF_snoc (l:List Nat) (n:Nat):(l ++ [n]).foldl (fun l n => putL l n recU) [] = putL (l.foldl (fun l n => putL l n recU) []) n recU:=by simp
theorem heldF_areU:∀ (l:List Nat),AreU (l.foldl (fun l n => putL l n recU) []):=by
 refine snoc_ind (fun x hx => by cases hx) (fun l n ih => ?_)
 ·rw [heldF_snoc]
  intro x hx
  rcases mem_putL hx with rfl | hx
  ·rfl
  ·exact ih x hx
theorem heldF_len:∀ (l:List Nat),(l.foldl (fun l n => putL l n recU) []).length ≤ l.length:=by
 refine snoc_ind (by simp) (fun l n ih => ?_)
 ·rw [heldF_snoc]
  have:=length_putL_le (l.foldl (fun l n => putL l n recU) []) n recU
  simp
  omega
theorem heldF_look:∀ (l:List Nat) (n:Nat),(look (l.foldl (fun l n => putL l n recU) []) (n:Int)).isSome=l.contains n:=by
 refine snoc_ind (fun n => rfl) (fun l m ih => ?_)
 ·intro n
  rw [heldF_snoc,look_putL]
  unfold putF
  by_cases h:(n:Int)=(m:Int)
  ·have h':n=m:=by omega
   subst h'
   rw [if_pos rfl]
   simp
  ·rw [if_neg h,ih n]
   have h':¬ n=m:=by omega
   simp [h']
section
variable {g:Nat→Nat} {free:List Nat} {sh:Nat→List (Nat × Value)} {a:Mod.Ag} {op:Nat} {pl:Nat→List Nat}
theorem onAg_held (O:OnAg a op g free sh pl) {s:Nat} (hs:s < 3) (l:List Nat) (hl:l.length ≤ 3) :
  OnAg { a with fl:=Mod.upd a.fl s { a.fl s with held:=l } } op g free (fun t => if t=s * 3+2 then l.foldl (fun l n => putL l n recU) [] else sh t) pl:=by
 have hfl:∀ j,Mod.upd a.fl s { a.fl s with held:=l } j=if j=s then { a.fl s with held:=l } else a.fl j:=fun j => rfl
 refine ⟨O.ep,fun j hj => ?_,fun j hj => ?_,fun j hj => ?_,fun j hj n => ?_,fun j hj => ?_,fun j hj n => ?_,fun j hj => ?_,fun j hj => ?_,O.nd,O.lt,?_⟩
 ·show g j=(Mod.upd a.fl s { a.fl s with held:=l } j).base
  rw [hfl]
  by_cases e:j=s
  ·subst e;rw [if_pos rfl];exact O.bs j hj
  ·rw [if_neg e];exact O.bs j hj
 ·show (pl j).length=(Mod.upd a.fl s { a.fl s with held:=l } j).kept.length
  rw [hfl]
  by_cases e:j=s
  ·subst e;rw [if_pos rfl];exact O.pn j hj
  ·rw [if_neg e];exact O.pn j hj
 ·show (if j * 3=s * 3+2 then _ else sh (j * 3))=keptL (Mod.upd a.fl s { a.fl s with held:=l } j).base (Mod.upd a.fl s { a.fl s with held:=l } j).kept (pl j)
  rw [if_neg (by omega),hfl]
  by_cases e:j=s
  ·subst e;rw [if_pos rfl];exact O.kp j hj
  ·rw [if_neg e];exact O.kp j hj
 ·show look (if j * 3+1=s * 3+2 then _ else sh (j * 3+1)) _=sentF (Mod.upd a.fl s { a.fl s with held:=l } j) n
  rw [if_neg (by omega),hfl]
  by_cases e:j=s
  ·subst e;rw [if_pos rfl];exact O.sn j hj n
  ·rw [if_neg e];exact O.sn j hj n
 ·show AreI (if j * 3+1=s * 3+2 then _ else sh (j * 3+1))
  rw [if_neg (by omega)];exact O.si j hj
 ·show (look (if j * 3+2=s * 3+2 then _ else sh (j * 3+2)) _).isSome=(Mod.upd a.fl s { a.fl s with held:=l } j).held.contains n
  rw [hfl]
  by_cases e:j=s
  ·subst e;rw [if_pos rfl,if_pos rfl];exact heldF_look l n
  ·rw [if_neg (by omega),if_neg e];exact O.hd j hj n
 ·show AreU (if j * 3+2=s * 3+2 then _ else sh (j * 3+2))
  by_cases e:j=s
  ·subst e;rw [if_pos rfl];exact heldF_areU l
  ·rw [if_neg (by omega)];exact O.hu j hj
 ·show (if j * 3+2=s * 3+2 then _ else sh (j * 3+2)).length ≤ 3
  by_cases e:j=s
  ·subst e;rw [if_pos rfl];exact Nat.le_trans (heldF_len l) hl
  ·rw [if_neg (by omega)];exact O.hl j hj
 ·have h:=O.sum
  obtain ⟨f2,hf2⟩:∃ f2,f2=({ a.fl s with held:=l }:Mod.Flow):=⟨_,rfl⟩
  have hk:f2.kept.length=(a.fl s).kept.length:=by rw [hf2]
  have h2:=room_upd (a:=a) hs f2
  rw [← hf2]
  omega
end
theorem body0 {b:ByteArray} (h:0 < b.size):b[0].toNat=(b.data.toList.getD 0 0).toNat:=by
 have h':0 < b.data.size:=h
 simp [List.getD_eq_getElem?_getD,Array.getElem?_eq_getElem h',ByteArray.getElem_eq_getElem_data]
end Go.Proofs.YtamafdcnbcoegabGreat
namespace Go.Proofs.YtamafdcnbcoegabGreat
open Go.RowKit
section
variable {w:World} {p:Nat} {g:Nat→Nat} {free:List Nat} {sh:Nat→List (Nat × Value)} {st:Mod.Stv} {c:Av} {a:Mod.Ag} {pl:Nat→List Nat}
set_option maxRecDepth 100000 in
set_option maxHeartbeats 4000000 in
theorem obeyAck_skip (H:PaAt w p g a.ticks a.welcome a.fenced free sh st c) (O:OnAg a st.opening g free sh pl) (e:Nat) (s q:Int) (b:ByteArray) (he:e ≠ a.epoch ∨ a.welcome=false) :
  Calls Tryz.prog 77 #[ptrTo p,.agg #[.int .i64 4,.int .i64 e,.int .i64 s,.int .i64 q,.string b]] w fun r z => r = .returned (.int .i64 0)∧Below w.heap.size w z:=by
 have HEP:=fun z (hz:Below w.heap.size w z) => hide (agEpoch_any (H.below hz))
 have hpl:=lt_of_block H.ks.blk
 have c24:w.cell? ⟨p,24,none⟩=some (.bool a.welcome):=by rw [blk_cell H.ks.blk,H.ks.aw]
 obtain ⟨ep,hep⟩:∃ ep,ep=a.epoch:=⟨_,rfl⟩
 have hop:st.opening=ep:=by rw [hep];exact O.ep
 rw [hop] at HEP
 rw [← hep] at he
 have DD:=hide (boxAt_new w #[.int .i64 4,.int .i64 e,.int .i64 s,.int .i64 q,.string b])
 generalize a.welcome=wel at *
 clear H O hop hep
 unfold ptrTo at *
 go_enter Tryz.func77,Tryz.ntmps77
 go_upto_region 1 with fail
 refine wp_world (BoxAt w #[.int .i64 4,.int .i64 e,.int .i64 s,.int .i64 q,.string b]) (unhide DD) ?_
 clear DD
 intro x X
 have y1:=blk_cell (i:=1) X.box
 simp at y1
 have d24:=(X.bel.cell (p:=⟨p,24,none⟩) hpl).trans c24
 have HE1:=fun n => hide (unhide (HEP (x.drewN n) (X.drewN n).bel))
 have HX:=hide X
 clear X c24
 by_cases hne:e=ep
 ·have hwf:wel=false:=he.resolve_left (fun h => h hne)
  subst hwf
  have hn:((e:Int) != (ep:Int))=false:=by simp [hne]
  go_quiet (first | (go_at_call 52;exact Calls.quiet_of_same (unhide (HE1 _))))
  go_wp2
  go_ret
  exact ⟨rfl,((unhide HX).drewN _).bel⟩
 ·have hn:((e:Int) != (ep:Int))=true:=by simp;omega
  go_quiet (first | (go_at_call 52;exact Calls.quiet_of_same (unhide (HE1 _))))
  go_wp2
  go_ret
  exact ⟨rfl,((unhide HX).drewN _).bel⟩
set_option maxRecDepth 100000 in
set_option maxHeartbeats 8000000 in
theorem obeyAck_do (H:PaAt w p g a.ticks a.welcome a.fenced free sh st c) (hs:Sound st) (O:OnAg a st.opening g free sh pl) (e:Nat) (s q:Nat) (b:ByteArray) (he:e=a.epoch) (hw:a.welcome=true) (hs3:s < 3) (hb1:0 < b.size) (hbnd:∀ i,i < 3→(a.fl i).base+(a.fl i).kept.length ≤ 1000000000) :
  Calls Tryz.prog 77 #[ptrTo p,.agg #[.int .i64 4,.int .i64 e,.int .i64 s,.int .i64 q,.string b]] w fun r z => r = .returned (.int .i64 0)∧AgIs w z p (a.deliver 4 e s q b) c:=by
 have hpl:=lt_of_block H.ks.blk
 have HEP:=fun z (hz:Below w.heap.size w z) => hide (agEpoch_any (H.below hz))
 have c24:w.cell? ⟨p,24,none⟩=some (.bool true):=by rw [blk_cell H.ks.blk,H.ks.aw,hw]
 obtain ⟨sq,hsq⟩:∃ sq,sq=a.ackSeq s q:=⟨_,rfl⟩
 have hsq2:sq=min q ((a.fl s).base+(a.fl s).kept.length):=by rw [hsq];rfl
 obtain ⟨n,hn⟩:∃ n,n=a.says 4 e s q b:=⟨_,rfl⟩
 have hd:a.deliver 4 e s q b=if sq < (a.fl s).base then a else { a.drop n with fl:=Mod.upd (a.drop n).fl s { (a.drop n).fl s with held:=Mod.bitsOf sq b[0].toNat 3 } }:=by
  unfold Mod.Ag.deliver
  rw [if_neg (by omega),if_neg (by omega),if_neg (by omega),if_neg (by omega),if_pos rfl,hn,body0 hb1]
  have hst:((s:Nat):Int).toNat=s:=rfl
  rw [hst,← hsq,hw]
  by_cases h:sq < (a.fl s).base
  ·rw [if_pos (.inr h),if_pos h]
  ·rw [if_neg (by simp;omega),if_neg h]
 have hnl:∀ i,i < 3→n i ≤ (a.fl i).kept.length:=fun i _ => by rw [hn];exact says_le _ _ _ _ _ _ _
 have hni:∀ i,n i=if i=s then min (q - (a.fl s).base) (a.fl s).kept.length else 0:=fun i => by
  rw [hn]
  unfold Mod.Ag.says
  rw [if_neg (by omega),if_neg (by omega)]
  by_cases h:i=s
  ·subst h
   rw [if_pos ⟨rfl,rfl,hw⟩,if_pos rfl]
   unfold Mod.Ag.gone
   congr 1
   omega
  ·rw [if_neg (fun h' => h (by have:=h'.2.1;omega)),if_neg h]
 obtain ⟨X,hX⟩:∃ X:Nat→Nat,X=fun i => if i=s then sq else (a.fl i).base:=⟨_,rfl⟩
 have hLG:¬ sq < (a.fl s).base→∀ z,Below w.heap.size w z→Hid (Calls Tryz.prog 117 #[ptrTo p,.agg #[.int .i64 (X 0),.int .i64 (X 1),.int .i64 (X 2)]] z fun r z' => r = .returned (.int .i64 0)∧AgIs z z' p (a.drop n) c):=fun hlt z hz => by
  have hXi:∀ i,i < 3→X i=(a.fl i).base+n i:=fun i hi => by
   rw [hX,hni i]
   show (if i=s then sq else (a.fl i).base)=_
   by_cases h:i=s
   ·subst h;rw [if_pos rfl,if_pos rfl];omega
   ·rw [if_neg h,if_neg h];rfl
  refine hide (letGo_any (H.below hz) hs O n X hnl hXi (fun i hi => ?_))
  have:=hbnd i hi
  have:=hnl i hi
  rw [hXi i hi]
  omega
 have hLs:=fun z (hz:Below w.heap.size w z) => agLast_any (H.below hz) O hs3 (O.bs s hs3)
 have q0:w.cell? ⟨p,1,none⟩=some (.int .i64 (a.fl 0).base):=by rw [blk_cell H.ks.blk,← O.bs 0 (by omega)];exact H.ks.ag 0 (by omega)
 have q1:w.cell? ⟨p,2,none⟩=some (.int .i64 (a.fl 1).base):=by rw [blk_cell H.ks.blk,← O.bs 1 (by omega)];exact H.ks.ag 1 (by omega)
 have q2:w.cell? ⟨p,3,none⟩=some (.int .i64 (a.fl 2).base):=by rw [blk_cell H.ks.blk,← O.bs 2 (by omega)];exact H.ks.ag 2 (by omega)
 have qs:w.cell? ⟨p,1+s,none⟩=some (.int .i64 (a.fl s).base):=by rw [blk_cell H.ks.blk,← O.bs s hs3];exact H.ks.ag s hs3
 obtain ⟨bl,hbl⟩:∃ v,v=(a.fl s).base+(a.fl s).kept.length:=⟨_,rfl⟩
 rw [← hbl] at hLs hsq2
 have HLs:=fun z hz => hide (hLs z hz)
 have hmn:min (q:Int) (bl:Int)=(sq:Int):=by omega
 have hsqm:sq ≤ 1000000000:=by have:=hbnd s hs3;omega
 have hHD:=fun z => hide (frameHeld_any sq hsqm b hb1 z)
 obtain ⟨bits,hbits⟩:∃ l,l=Mod.bitsOf sq b[0].toNat 3:=⟨_,rfl⟩
 have hbl3:bits.length ≤ 3:=by rw [hbits];exact bitsOf_len _ _ _
 rw [← hbits] at hd hHD
 obtain ⟨ep,hep⟩:∃ ep,ep=a.epoch:=⟨_,rfl⟩
 have hop:st.opening=ep:=by rw [hep];exact O.ep
 rw [hop] at HEP
 have hne:((e:Int) != (ep:Int))=false:=by simp;omega
 obtain ⟨a2,ha2⟩:∃ a2,a2=a.deliver 4 e s q b:=⟨_,rfl⟩
 rw [← ha2] at hd ⊢
 obtain ⟨a1,ha1⟩:∃ a1,a1=a.drop n:=⟨_,rfl⟩
 rw [← ha1] at hd hLG
 have HD:=hide hd
 have DD:=hide (boxAt_new w #[.int .i64 4,.int .i64 e,.int .i64 s,.int .i64 q,.string b])
 obtain ⟨bs,hbs⟩:∃ v,v=(a.fl s).base:=⟨_,rfl⟩
 rw [← hbs] at qs hLG
 have hXX:#[Value.int .i64 (X 0),.int .i64 (X 1),.int .i64 (X 2)] = (#[Value.int .i64 (a.fl 0).base,.int .i64 (a.fl 1).base,.int .i64 (a.fl 2).base]:Array Value).setIfInBounds s (.int .i64 sq):=by
  rw [hX]
  obtain rfl | rfl | rfl:s=0 ∨ s=1 ∨ s=2:=by omega
  all_goals simp
 have HXX:=hide hXX
 have HBS:=hide hbs
 have HREF:=hide (agIs_refl H hs O)
 have hi0:(0:Int) ≤ (s:Int):=by omega
 have hi3:(s:Int) < 3:=by omega
 generalize (a.fl 0).base=g0 at *
 generalize (a.fl 1).base=g1 at *
 generalize (a.fl 2).base=g2 at *
 obtain ⟨x0,hx0⟩:∃ x,x=X 0:=⟨_,rfl⟩
 obtain ⟨x1,hx1⟩:∃ x,x=X 1:=⟨_,rfl⟩
 obtain ⟨x2,hx2⟩:∃ x,x=X 2:=⟨_,rfl⟩
 rw [← hx0,← hx1,← hx2] at hLG HXX
 have HLG:=hide hLG
 have HNB:=hide (fun h => absurd (H.lt _ h) (by omega):¬ PaU p c w.heap.size)
 clear H O hs hn hd hnl hni hX hLs hop hep ha2 ha1 he hw hbnd hsq hsq2 hbl hbits hbs hXX hx0 hx1 hx2 hLG hb1 hsqm
 unfold ptrTo at *
 go_enter Tryz.func77,Tryz.ntmps77
 go_upto_region 1 with fail
 refine wp_world (BoxAt w #[.int .i64 4,.int .i64 e,.int .i64 s,.int .i64 q,.string b]) (unhide DD) ?_
 clear DD
 intro x X9
 have y1:=blk_cell (i:=1) X9.box
 simp at y1
 have d24:=(X9.bel.cell (p:=⟨p,24,none⟩) hpl).trans c24
 have HE1:=fun n => hide (unhide (HEP (x.drewN n) (X9.drewN n).bel))
 have HX:=hide X9
 clear X9 c24
 go_quiet (first | (go_at_call 52;exact Calls.quiet_of_same (unhide (HE1 _))))
 go_upto_region 3 with fail
 refine wp_world (BoxAt w #[.int .i64 4,.int .i64 e,.int .i64 s,.int .i64 q,.string b]) ((unhide HX).drewN _) ?_
 clear HX y1 HE1 d24
 intro x X9
 have y2:=blk_cell (i:=2) X9.box
 have y3:=blk_cell (i:=3) X9.box
 simp at y2 y3
 have hxl:=X9.lt
 have HX:=hide X9
 clear X9
 refine wp_region_frame (by kernel_rfl)
  [fun v _ => v = .pointer (some ⟨w.heap.size,3,none⟩),fun v _ => v = .int .i64 q,fun v _ => v = .pointer (some ⟨p,0,none⟩),fun v _ => v = .pointer (some ⟨w.heap.size,2,none⟩),fun v _ => v = .int .i64 s,fun v _ => v = .int .i64 bl,fun v _ => v = .int .i64 sq,fun v _ => v = .int .i64 sq]
  [[(3,none)],[(23,some 0)],[(0,none)],[(3,none)],[(26,some 3)],[(25,some 2),(27,some 4)],[(24,some 1),(28,some 5)],[(29,some 6)]] [some 23,some 24,some 25,some 26,some 27,some 28,some 29,some 5] [false,false,false,false,false,true,false,false,false,false,false,false,false,false,false,false,false,false,false,false,false,false,false,true,true,true,true,true,true,true,false,false,false,false,false,false,false,false,false,false,false,false,false,false,false,false,false,false,false,false,false,false,false,false,false,false,false,false,false,false,false,false,false,false,false,false,false,false,false,false,false,false,false,false,false,false]
  (by kernel_rfl) (by kernel_rfl) (by kernel_rfl) (by kernel_rfl) ?_ ?_ ?_
 ·repeat' (first | exact stable_eq _ | exact trivial | apply And.intro)
 ·refine ⟨?_,?_,?_,?_,?_,?_,?_,?_,trivial⟩
  all_goals
   intro a' z hbz hf
   have e2:=(hbz.cell (p:=⟨w.heap.size,2,none⟩) hxl).trans y2
   have e3:=(hbz.cell (p:=⟨w.heap.size,3,none⟩) hxl).trans y3
   have HL:=hide (unhide (HLs z ((unhide HX).bel.trans (hbz.mono (unhide HX).bel.size))))
   clear hbz
   simp only [PlanFacts,List.getD_cons_zero,List.getD_cons_succ,Array.getD_eq_getD_getElem?] at hf
   try simp at hf
   go_simp
   try exact Below.refl _ _
  all_goals first
   | exact ⟨rfl,Below.refl _ _⟩
   | exact ⟨_,rfl,Below.refl _ _,rfl⟩
   | (refine (unhide HL).mono ?_;rintro r z2 ⟨rfl,k,rfl⟩;exact ⟨rfl,below_drewN (Below.refl _ _) k⟩)
   | (refine (unhide HL).mono ?_;rintro r z2 ⟨rfl,k,rfl⟩;exact ⟨_,rfl,below_drewN (Below.refl _ _) k,rfl⟩)
   | skip
 ·intro f z hbz hwd
  simp only [AllWords] at hwd
  have h7:=hwd.2.2.2.2.2.2.2.1
  clear hwd
  have HZ:=hide ((unhide HX).below hbz)
  clear hbz
  simp only [mergeT,h7]
  generalize f 23=x23
  generalize f 24=x24
  generalize f 25=x25
  generalize f 26=x26
  generalize f 27=x27
  generalize f 28=x28
  generalize f 29=x29
  go_upto_region 4 with fail
  refine wp_world (BoxAt w #[.int .i64 4,.int .i64 e,.int .i64 s,.int .i64 q,.string b]) (unhide HZ) ?_
  clear HZ HX y2 y3 hxl
  intro x X9
  have y2:=blk_cell (i:=2) X9.box
  simp at y2
  have ds:=(X9.bel.cell (p:=⟨p,1+s,none⟩) hpl).trans qs
  have HX:=hide X9
  clear X9 qs
  by_cases hlt:sq < bs
  ·have hltI:(sq:Int) < (bs:Int):=by omega
   go_quiet (fail)
   go_wp2
   go_ret
   refine ⟨rfl,?_⟩
   rw [unhide HD,← unhide HBS,if_pos hlt]
   exact (unhide HREF).below (((unhide HX).drewN _).bel)
  ·have hltI:¬ (sq:Int) < (bs:Int):=by omega
   go_quiet (fail)
   go_upto_region 6 with fail
   refine wp_world (BoxAt w #[.int .i64 4,.int .i64 e,.int .i64 s,.int .i64 q,.string b]) ((unhide HX).drewN _) ?_
   clear HX y2 ds
   intro x X9
   have y2:=blk_cell (i:=2) X9.box
   simp at y2
   have d0:=(X9.bel.cell (p:=⟨p,1,none⟩) hpl).trans q0
   have d1:=(X9.bel.cell (p:=⟨p,2,none⟩) hpl).trans q1
   have d2:=(X9.bel.cell (p:=⟨p,3,none⟩) hpl).trans q2
   have hxl:=X9.lt
   have HX:=hide X9
   obtain ⟨g6,hg6⟩:∃ g6,g6=x.heap.size:=⟨_,rfl⟩
   have HG6:=hide hg6
   have hg6w:w.heap.size < g6:=by omega
   clear X9 q0 q1 q2
   go_upto_region 7 with fail
   rw [← hg6]
   clear hg6
   refine wp_world (fun y => y.heap[g6]? = some (.cells #[.int .i64 g0,.int .i64 g1,.int .i64 g2] 100 (0,0))∧BoxAt w #[.int .i64 4,.int .i64 e,.int .i64 s,.int .i64 q,.string b] y) ?_ ?_
   ·rw [unhide HG6]
    exact ⟨heap_alloc_new _ _,(unhide HX).below ((Below.refl _ _).alloc (Nat.le_refl _) _)⟩
   clear HX HG6 y2 d0 d1 d2 hxl
   rintro y ⟨h6,X9⟩
   have y2:=blk_cell (i:=2) X9.box
   simp at y2
   have f6:=blk_free (i:=s) h6
   obtain ⟨old,hold⟩:∃ v:Nat,y.cell? ⟨g6,s,none⟩=some (.int .i64 v):=by
    rw [blk_cell h6]
    obtain rfl | rfl | rfl:s=0 ∨ s=1 ∨ s=2:=by omega
    ·exact ⟨g0,rfl⟩
    ·exact ⟨g1,rfl⟩
    ·exact ⟨g2,rfl⟩
   have HY:=hide (And.intro h6 X9)
   clear h6 X9
   go_upto_region 8 with fail
   refine wp_world (fun y => y.heap[g6]? = some (.cells #[.int .i64 x0,.int .i64 x1,.int .i64 x2] 100 (0,0))∧BoxAt w #[.int .i64 4,.int .i64 e,.int .i64 s,.int .i64 q,.string b] y) ?_ ?_
   ·obtain ⟨h6,X9⟩:=unhide HY
    have hset:=far_set y g6 s (.int .i64 sq)
    refine ⟨?_,⟨hset.blk X9.box (by omega),X9.bel.setCell (p:=⟨g6,s,none⟩) (Nat.le_of_lt hg6w) _⟩⟩
    rw [unhide HXX]
    exact blk_set h6
   clear HY y2 f6 hold
   rintro y ⟨h6,X9⟩
   have e0:=blk_cell (i:=0) h6
   have e1:=blk_cell (i:=1) h6
   have e2:=blk_cell (i:=2) h6
   have y2:=blk_cell (i:=2) X9.box
   simp at e0 e1 e2 y2
   have HLX:=hide (unhide ((unhide HLG) hlt y X9.bel))
   have HX:=hide X9
   clear h6 X9
   go_upto_region 11 with (go_at_call 117;refine (unhide HLX).mono ?_;rintro r z ⟨rfl,hag⟩)
   obtain ⟨gg,fr1,sh1,pl1,st1,⟨c1,K1,F1,N1,t1,t2⟩,hs1,hO1⟩:=hag
   have hbz:=F1.blk (unhide HX).box (unhide HNB)
   have hPz:=PaStep.behind (w:=w) (⟨c1,K1,F1,N1,t1,t2⟩:PaStep y z p gg a1.ticks a1.welcome a1.fenced fr1 sh1 st1 c) (unhide HX).bel
   have y2:=blk_cell (i:=2) hbz
   simp at y2
   have HZ:=hide (And.intro hbz hPz)
   have HE:=hide (And.intro hs1 hO1)
   clear K1 F1 N1 t1 t2 hs1 hO1 hbz hPz HX HLX e0 e1 e2
   go_quiet (fail)
   go_upto_region 12 with fail
   refine wp_world (fun y => y.heap[w.heap.size]? = some (.cells #[.int .i64 4,.int .i64 e,.int .i64 s,.int .i64 q,.string b] 63 (0,0))∧PaStep w y p gg a1.ticks a1.welcome a1.fenced fr1 sh1 st1 c) ?_ ?_
   ·exact ⟨(unhide HZ).1,(unhide HZ).2.below (below_drewN (Below.refl _ _) _)⟩
   clear HZ y2
   rintro x ⟨hbx,c1,K1,F1,N1,t1,t2⟩
   have HC:=hide (clearU_any (K1.shAt (i:=s * 3+2) (by omega)))
   rw [show 4+(s * 3+2) * 2=4+s * 6+4 by omega] at HC
   have HK:=hide (And.intro hbx (And.intro K1 (And.intro F1 (And.intro N1 (And.intro t1 t2)))))
   clear hbx K1 F1 N1 t1 t2
   go_upto_region 13 with (go_at_call 119;refine (unhide HC).mono ?_;rintro r z2 ⟨rfl,hst⟩)
   rw [show 4+s * 6+4=4+(s * 3+2) * 2 by omega] at hst
   obtain ⟨hbx,K1,F1,N1,t1,t2⟩:=unhide HK
   have hbn:=pa_not_cells K1 hbx (by decide) (by decide) (by decide) (by decide) (by decide) (by decide) (by decide)
   have hb2:=hst.2.blk hbx (fun h => hbn (.inl (h.elim .inl (fun h => .inr (.inr ⟨s * 3+2,by omega,h⟩)))))
   have hP2:=paAfter F1 N1 t1 t2 (paStep_sh K1 (by omega) hst)
   have y4:=blk_cell (i:=4) hb2
   simp at y4
   clear hbx K1 F1 N1 t1 t2 hbn hst HK HC hb2
   obtain ⟨c2,K2,F2,N2,s1,s2⟩:=hP2
   have HK2:=hide (And.intro K2 (And.intro F2 (And.intro N2 (And.intro s1 s2))))
   clear K2 F2 N2 s1 s2
   have HH2:=hide (unhide (hHD z2))
   clear hHD
   obtain ⟨m,hm⟩:∃ m,m=bits.length:=⟨_,rfl⟩
   rw [← hm] at HH2 hbl3
   have HM:=hide hm
   clear hm
   go_wp2_with (go_at_call 120;refine (unhide HH2).mono ?_;rintro r z3 ⟨v,rfl,hv,hbl⟩;obtain ⟨ad,cap,rfl,_⟩:=(own_rowO hv).shape;replace hv:=hide hv;replace hbl:=hide hbl)
   go_loopw [10,67] (fun _ i wr => ∃ t:Nat,t ≤ m∧i = .int .i64 t∧RowO wr 3 1 (.slice ad m cap) m (numCells bits)∧∃ c',PaAt wr p gg a1.ticks a1.welcome a1.fenced fr1 (fun j => if j=s * 3+2 then (bits.take t).foldl (fun l n => putL l n recU) [] else sh1 j) st1 c' ∧ Far (PaU p c) w wr∧(∀ k,PaU p c' k→PaU p c k ∨ w.heap.size ≤ k)∧c'.s=c.s∧c'.rv=c.rv∧(∀ g,(Value.slice ad m cap).ownBlock=some g→¬ PaU p c' g)) (fun _ i _ => m - (intOf i).toNat)
   case atStart =>
    obtain ⟨K2,F2,N2,s1,s2⟩:=unhide HK2
    refine ⟨0,by omega,rfl,own_rowO (unhide hv),c2,K2.below (unhide hbl),F2.trans (far_below (E:=PaU p c) (unhide hbl)) (fun _ _ h => h),N2,s1,s2,fun g hg hu => ?_⟩
    have h1:=(World.ownsRow.lt (unhide hv) g hg).1
    have h2:=K2.lt g hu
    omega
   case round =>
    obtain ⟨t,ht,rfl,hrow,c3,K3,F3,N3,u1,u2,hap⟩:=hrel
    by_cases htl:t < m
    ·obtain ⟨ad',cap',esl,_,_,hcl⟩:=hrow.shape
     injection esl with esl _ esl2
     subst esl esl2
     obtain ⟨gt,ot,rfl,hcl2⟩:=hcl (by omega)
     obtain ⟨nb,hnb⟩:∃ nb,bits[t]? = some nb:=⟨bits[t]'(by have:=unhide HM;omega),List.getElem?_eq_getElem _⟩
     have r0:=(hcl2 t (by omega))
     rw [show (numCells bits)[t]? = some (.int .i64 nb) by simp [numCells,hnb]] at r0
     have htake:bits.take (t+1)=bits.take t ++ [nb]:=by rw [List.take_add_one,hnb];rfl
     have hlen:((bits.take t).foldl (fun l n => putL l n recU) []).length < 1000:=by
      have:=heldF_len (bits.take t)
      have:=List.length_take_le t bits
      omega
     have HP:=hide (putU_any (K3.shAt (i:=s * 3+2) (by omega)) (by rw [if_pos rfl];exact hlen) nb)
     rw [if_pos rfl,← heldF_snoc,← htake] at HP
     rw [show 4+(s * 3+2) * 2=4+s * 6+4 by omega] at HP
     have ht0:(0:Int) ≤ (t:Int):=by omega
     have htn:(t:Int) < (m:Int):=by omega
     have HR:=hide (And.intro hrow (And.intro K3 (And.intro F3 (And.intro N3 (And.intro u1 (And.intro u2 hap))))))
     clear hrow K3 F3 N3 u1 u2 hap hcl hcl2 htake hlen hnb
     go_wp2_with (go_at_call 121;refine (unhide HP).mono ?_;rintro r z4 ⟨rfl,hst⟩)
     rw [show 4+s * 6+4=4+(s * 3+2) * 2 by omega] at hst
     obtain ⟨hrow,K3,F3,N3,u1,u2,hap⟩:=unhide HR
     obtain ⟨c4,K4,F4,N4,v1,v2⟩:=paStep_sh K3 (by omega) hst
     have hFU:∀ k,(k=p ∨ ShU (c3.nv (s * 3+2)) (c3.mv (s * 3+2)) k)→PaU p c3 k:=fun k hk => hk.elim (fun h => .inl (.inl h)) (fun h => .inl (.inr (.inr ⟨s * 3+2,by omega,h⟩)))
     refine ⟨⟨t+1,by omega,rfl,hrow.far hst.2 (fun g hg h => hap g hg (hFU g h)),c4,?_,F3.trans F4 (fun k hk hu => (N3 k hu).elim id (fun h => by omega)),fun k hk => ?_,v1.trans u1,v2.trans u2,fun g hg hu => ?_⟩,?_⟩
     ·rw [show (fun j => if j=s * 3+2 then (bits.take (t+1)).foldl (fun l n => putL l n recU) [] else sh1 j)=(fun j => if j=s * 3+2 then (bits.take (t+1)).foldl (fun l n => putL l n recU) [] else if j=s * 3+2 then (bits.take t).foldl (fun l n => putL l n recU) [] else sh1 j) by
       funext j
       by_cases h:j=s * 3+2
       ·rw [if_pos h,if_pos h]
       ·rw [if_neg h,if_neg h,if_neg h]]
      exact K4
     ·rcases N4 k hk with h | h
      ·exact N3 k h
      ·exact .inr (Nat.le_trans F3.size h)
     ·rcases N4 g hu with h | h
      ·exact hap g hg h
      ·have:=hrow.lt g hg
       omega
     ·simp [intOf];omega
    ·have e:t=m:=by omega
     have hnt:¬ (t:Int) < (m:Int):=by omega
     have HR:=hide (And.intro K3 (And.intro F3 (And.intro N3 (And.intro u1 u2))))
     have HT:=hide (And.intro e htl)
     clear hrow K3 F3 N3 u1 u2 hap e htl
     go_wp2
     go_ret
     refine ⟨rfl,?_⟩
     rw [unhide HD,← unhide HBS,if_neg hlt]
     obtain ⟨K3,F3,N3,u1,u2⟩:=unhide HR
     rw [show bits.take t=bits by rw [(unhide HT).1,unhide HM];exact List.take_length] at K3
     exact ⟨gg,fr1,_,pl1,st1,⟨c3,K3,F3,N3,u1,u2⟩,(unhide HE).1,onAg_held (unhide HE).2 hs3 bits (by rw [← unhide HM];exact hbl3)⟩
end
end Go.Proofs.YtamafdcnbcoegabGreat
