/-
  Part 5 of a proof: D14, D15, D16, D17, Y7, Y8, Y9, Y10, Y11, T1, X12, X13, X14, X16, G4, G5, MonoCut, T2, F1, S7S, S8S, F2, F3.
-/
import Derived.Laws.Cover3
import Derived.Deep.RegionLaw
import Derived.Test.YtamafdcnbcoegabGreatAn4
namespace Go.Proofs.YtamafdcnbcoegabGreat
open Go.RowKit
namespace Mod
def newer (o c o' c':Nat):Bool:=if o ≠ o' then decide (o' < o) else decide (c' < c)
end Mod
set_option maxHeartbeats 400000 in
theorem isNewer_any (o c o' c':Nat) (w:World):Calls Tryz.prog 161 #[.agg #[.int .u32 o,.int .u64 c],.agg #[.int .u32 o',.int .u64 c']] w fun r w' => r = .returned (.bool (Mod.newer o c o' c'))∧Below w.heap.size w w':=by
 by_cases h:o=o'
 ·subst h
  go_enter Tryz.func161,Tryz.ntmps161
  go_wp2
  go_ret
  exact ⟨by simp [Mod.newer],((Below.refl _ _).alloc (Nat.le_refl _) _).alloc (by simp) _⟩
 ·have hne:¬ (o:Int)=(o':Int):=by omega
  have hne2:((o:Int) == (o':Int))=false:=by simp;omega
  go_enter Tryz.func161,Tryz.ntmps161
  go_wp2
  go_ret
  exact ⟨by simp [Mod.newer,h],((Below.refl _ _).alloc (Nat.le_refl _) _).alloc (by simp) _⟩
theorem tmpB {t:Array Value} {k:Nat} {c:Bool} (h:t[k]?.getD undef = .bool c):t[k]? = some (.bool c):=by
 cases hx:t[k]? with
 | none => rw [hx] at h;simp [undef] at h
 | some v => rw [hx] at h;simp at h;rw [h]
theorem size_head:(Tryz.prog.info? 199).map (·.size)=some 5:=by kernel_rfl
theorem far_setRow (w:World) (g:Nat) (cs:Array Value):Far (fun k => k=g) w (w.setRow g cs):=⟨rfl,rfl,rfl,by simp,fun k _ hk => setRow_other w g k _ hk⟩
def zHead:Value:=.agg #[.int .u32 0,.int .u64 0,.int .i64 0,.int .i64 0,.int .i64 0]
set_option maxRecDepth 100000 in
set_option maxHeartbeats 2000000 in
theorem newestHead_zero (w:World) (v:Value) (n:Nat) (hat:BytesAt w v (List.replicate n 0)) (hn1:128 ≤ n) (hn2:n ≤ 10000) :
  Calls Tryz.prog 111 #[v] w fun r w' => r = .returned (.tuple #[zHead,.int .i64 0,.bool true])∧Below w.heap.size w w':=by
 have hS:=fun (k:Nat) (hk:k * 64+64 ≤ n) y (hb:Below w.heap.size w y) => hide (sectorAt_zero y v n k (hat.below hb) hk hn2)
 have hN:=fun y => hide (isNewer_any 0 0 0 0 y)
 rw [show Mod.newer 0 0 0 0=false from rfl] at hN
 clear hat
 unfold zHead
 go_enter Tryz.func111,Tryz.ntmps111
 go_upto_region 2 with (first
  | (go_at_call 160;refine (unhide (hS 0 (by omega) _ ((Below.refl _ _).alloc (Nat.le_refl _) _))).mono ?_;rintro r y ⟨rfl,hb1⟩)
  | (go_at_call 159;refine (readHead_zero _).mono ?_;rintro r y2 ⟨rfl,hb2⟩))
 have hz1:=hb1.size
 have hz2:=hb2.size
 simp only [World.size_alloc] at hz1
 have hy2:y2.heap[w.heap.size]? = some (.cells #[.int .u32 0,.int .u64 0,.int .i64 0,.int .i64 0,.int .i64 0] 199 (0,0)):=(hb2.block _ (by omega)).trans ((hb1.block _ (by simp)).trans (heap_alloc_new w _))
 have hBy:Below w.heap.size w y2:=(((Below.refl _ _).alloc (Nat.le_refl _) _).trans (hb1.mono (by simp))).trans (hb2.mono (by omega))
 obtain ⟨g5,hg5⟩:∃ g,g=y2.heap.size:=⟨_,rfl⟩
 rw [← hg5]
 refine wp_world (fun x => x.heap[w.heap.size]? = some (.cells #[.int .u32 0,.int .u64 0,.int .i64 0,.int .i64 0,.int .i64 0] 199 (0,0))∧x.heap[g5]? = some (.cells #[.int .u32 0,.int .u64 0,.int .i64 0,.int .i64 0,.int .i64 0] 199 (0,0))∧Below w.heap.size w x) ?_ ?_
 ·exact ⟨(hao _ _ (by omega)).trans hy2,by rw [hg5];exact heap_alloc_new _ _,hBy.alloc (by omega) _⟩
 have hg5w:w.heap.size < g5:=by omega
 clear hy2 hBy hz1 hz2 hb1 hb2 hg5
 rintro x ⟨h0,h5,hB⟩
 have H0:=hide h0
 have H5:=hide h5
 have HB:=hide hB
 have hzx:=lt_of_block h5
 clear h0 h5 hB
 go_upto_region 5 with (first
  | (go_at_call 160;refine (unhide (hS 1 (by omega) x (unhide HB))).mono ?_;rintro r y3 ⟨rfl,hb3⟩)
  | (go_at_call 159;refine (readHead_zero _).mono ?_;rintro r y4 ⟨rfl,hb4⟩))
 have hz3:=hb3.size
 have hz4:=hb4.size
 obtain ⟨g7,hg7⟩:∃ g,g=y4.heap.size:=⟨_,rfl⟩
 rw [← hg7]
 refine wp_world (fun x => x.heap[w.heap.size]? = some (.cells #[.int .u32 0,.int .u64 0,.int .i64 0,.int .i64 0,.int .i64 0] 199 (0,0))∧x.heap[g5]? = some (.cells #[.int .u32 0,.int .u64 0,.int .i64 0,.int .i64 0,.int .i64 0] 199 (0,0))∧x.heap[g7]? = some (.cells #[.int .u32 0,.int .u64 0,.int .i64 0,.int .i64 0,.int .i64 0] 199 (0,0))∧Below w.heap.size w x) ?_ ?_
 ·have hb:Below x.heap.size x y4:=hb3.trans (hb4.mono hz3)
  exact ⟨(hao _ _ (by omega)).trans ((hb.block _ (by omega)).trans (unhide H0)),(hao _ _ (by omega)).trans ((hb.block _ (by omega)).trans (unhide H5)),by rw [hg7];exact heap_alloc_new _ _,((unhide HB).trans (hb.mono (by omega))).alloc (by omega) _⟩
 have hg57:g5 < g7:=by omega
 clear H0 H5 HB hb3 hb4 hz3 hz4 hg7 hzx
 rintro x2 ⟨h0,h5,h7,hB⟩
 have e50:x2.cell? ⟨g5,0,none⟩=some (.int .u32 0):=blk_cell (i:=0) h5
 have e51:x2.cell? ⟨g5,1,none⟩=some (.int .u64 0):=blk_cell (i:=1) h5
 have e70:x2.cell? ⟨g7,0,none⟩=some (.int .u32 0):=blk_cell (i:=0) h7
 have e71:x2.cell? ⟨g7,1,none⟩=some (.int .u64 0):=blk_cell (i:=1) h7
 have H0:=hide h0
 have H5:=hide h5
 have H7:=hide h7
 have HB:=hide hB
 have hz7:=lt_of_block h7
 clear h0 h5 h7 hB
 go_upto_region 7 with (go_at_call 161;refine (unhide (hN _)).mono ?_;rintro r y5 ⟨rfl,hb5⟩)
 have hzx5:=hb5.size
 have e50:=(hb5.cell (p:=⟨g5,0,none⟩) (by show g5 < _;omega)).trans e50
 have e51:=(hb5.cell (p:=⟨g5,1,none⟩) (by show g5 < _;omega)).trans e51
 have e70:=(hb5.cell (p:=⟨g7,0,none⟩) (by show g7 < _;omega)).trans e70
 have e71:=(hb5.cell (p:=⟨g7,1,none⟩) (by show g7 < _;omega)).trans e71
 have HB5:=hide hb5
 clear hb5
 go_upto_region 9 with (go_at_call 161;refine (unhide (hN _)).mono ?_;rintro r y6 ⟨rfl,hb6⟩)
 have hb:Below x2.heap.size x2 y6:=(unhide HB5).trans (hb6.mono hzx5)
 have H0:=hide ((hb.block _ (by omega)).trans (unhide H0))
 have H5:=hide ((hb.block _ (by omega)).trans (unhide H5))
 have H7:=hide ((hb.block _ (by omega)).trans (unhide H7))
 have HB:=hide ((unhide HB).trans (hb.mono (unhide HB).size))
 have hz6:=hb.size
 clear hb HB5 hb6 e50 e51 e70 e71
 have heq:∀ y:World,(Op.equalIn 10000 199 (.agg #[.int .u32 0,.int .u64 0,.int .i64 0,.int .i64 0,.int .i64 0]) (.agg #[.int .u32 0,.int .u64 0,.int .i64 0,.int .i64 0,.int .i64 0])).run Tryz.prog y = .ok true y:=fun y => by kernel_rfl
 refine wp_region_foot (by kernel_rfl)
  [fun v _ => v=zHead,fun v _ => v=zHead,fun v _ => v=zHead,fun v _ => v = .bool true,fun v _ => v = .bool true,fun v _ => v=zHead,fun v _ => v=zHead,fun v _ => v = .bool true,fun v _ => v = .bool true,
   fun _ z => z.heap[w.heap.size]? = some (.cells #[.int .u32 0,.int .u64 0,.int .i64 0,.int .i64 0,.int .i64 0] 199 (0,0)),fun v _ => v = .int .i64 0,fun v _ => v = .bool true]
  [[],[(5,none)],[],[(44,some 1),(45,some 2)],[(46,some 3)],[(7,none),(47,some 4)],[(47,some 4)],[(48,some 5),(49,some 6),(47,some 4)],[(47,some 4),(50,some 7)],[(2,none),(43,some 0)],[],[(51,some 8)]] [some 43,some 44,some 45,some 46,some 47,some 48,some 49,some 50,some 51,none,some 3,some 4] [false,false,false,true,true,false,false,false,false,false,false,false,false,false,false,false,false,false,false,false,false,false,false,false,false,false,false,false,false,false,false,false,false,false,false,false,false,false,false,false,false,false,false,true,true,true,true,true,true,true,true,true]
  [(9,fun k => k=w.heap.size)]
  (by kernel_rfl) (by kernel_rfl) (by kernel_rfl) (by kernel_rfl) (by kernel_rfl) ?_ ?_ ?_ ?_
 ·repeat' (first | exact stable_eq _ | exact stable_blk _ _ | exact trivial | apply And.intro)
 ·repeat' (first | exact trivial | exact .inl rfl | exact .inr (.inr (stableF_eq _ _)) | apply And.intro)
 ·refine ⟨?_,?_,?_,?_,?_,?_,?_,?_,?_,?_,?_,?_,trivial⟩
  all_goals
   intro a z hb hf
   have z5:=hb.blk (unhide H5) (footBut_no (by intro q hq;simp at hq;subst hq;intro (e:g5=w.heap.size);omega))
   have z7:=hb.blk (unhide H7) (footBut_no (by intro q hq;simp at hq;subst hq;intro (e:g7=w.heap.size);omega))
   have e50:z.cell? ⟨g5,0,none⟩=some (.int .u32 0):=blk_cell (i:=0) z5
   have e51:z.cell? ⟨g5,1,none⟩=some (.int .u64 0):=blk_cell (i:=1) z5
   have e52:z.cell? ⟨g5,2,none⟩=some (.int .i64 0):=blk_cell (i:=2) z5
   have e53:z.cell? ⟨g5,3,none⟩=some (.int .i64 0):=blk_cell (i:=3) z5
   have e54:z.cell? ⟨g5,4,none⟩=some (.int .i64 0):=blk_cell (i:=4) z5
   have e70:z.cell? ⟨g7,0,none⟩=some (.int .u32 0):=blk_cell (i:=0) z7
   have e71:z.cell? ⟨g7,1,none⟩=some (.int .u64 0):=blk_cell (i:=1) z7
   have e72:z.cell? ⟨g7,2,none⟩=some (.int .i64 0):=blk_cell (i:=2) z7
   have e73:z.cell? ⟨g7,3,none⟩=some (.int .i64 0):=blk_cell (i:=3) z7
   have e74:z.cell? ⟨g7,4,none⟩=some (.int .i64 0):=blk_cell (i:=4) z7
   clear z5 z7
   simp only [PlanFacts,List.getD_cons_zero,List.getD_cons_succ,Array.getD_eq_getD_getElem?,zHead] at hf
   try simp at hf
  iterate 5
   ·clear hb
    go_simp
    exact ⟨_,rfl,Far.refl _ _,rfl⟩
  iterate 3
   ·clear hb
    have hg:a.tmps[47]? = some (.bool true):=tmpB (by first | exact hf | exact hf.2 | exact hf.2.2)
    go_simp
    exact ⟨_,rfl,Far.refl _ _,rfl⟩
  ·clear hb
   go_simp
   exact ⟨_,rfl,Far.refl _ _,rfl⟩
  ·have z0:=hb.blk (unhide H0) (by
    rintro ⟨q,hq,g1,g2,g3⟩
    simp at hq
    subst hq
    exact g1 rfl)
   clear hb
   rw [if_pos (by rfl)]
   refine wp_store_row 199 (.tmp 2) (.tmp 43) rfl w.heap.size #[.int .u32 0,.int .u64 0,.int .i64 0,.int .i64 0,.int .i64 0] (by simp [Act.eval,hf]) (by simp [Act.eval,hf]) 199 _ z0 (by rw [size_head];rfl) rfl (by rw [Array.all_eq_true_iff_forall_mem];intro u hu;simp at hu;rcases hu with rfl | rfl | rfl <;> rfl) ?_
   exact ⟨_,rfl,footOf_of (.head _) (far_setRow _ _ _),setRow_heap _ _ _ _ _ _ z0⟩
  ·clear hb
   go_simp
   exact ⟨_,rfl,Far.refl _ _,rfl⟩
  ·clear hb
   go_simp
   exact ⟨_,rfl,Far.refl _ _,rfl⟩
 ·intro f z hF hwd
  have h9:=hwd.2.2.2.2.2.2.2.2.2.1
  have h10:=hwd.2.2.2.2.2.2.2.2.2.2.1
  have h11:=hwd.2.2.2.2.2.2.2.2.2.2.2.1
  have q0:z.cell? ⟨w.heap.size,0,none⟩=some (.int .u32 0):=blk_cell (i:=0) h9
  have q1:z.cell? ⟨w.heap.size,1,none⟩=some (.int .u64 0):=blk_cell (i:=1) h9
  have q2:z.cell? ⟨w.heap.size,2,none⟩=some (.int .i64 0):=blk_cell (i:=2) h9
  have q3:z.cell? ⟨w.heap.size,3,none⟩=some (.int .i64 0):=blk_cell (i:=3) h9
  have q4:z.cell? ⟨w.heap.size,4,none⟩=some (.int .i64 0):=blk_cell (i:=4) h9
  have HBZ:=hide ((unhide HB).trans (hF.below (unhide HB).size (fun k hk h => by
   obtain ⟨q,hq,h⟩:=h
   simp at hq
   subst hq
   have h:k=w.heap.size:=h
   omega)))
  clear hwd hF h9
  simp only [mergeT,h10,h11]
  generalize f 43=x43
  generalize f 44=x44
  generalize f 45=x45
  generalize f 46=x46
  generalize f 47=x47
  generalize f 48=x48
  generalize f 49=x49
  generalize f 50=x50
  generalize f 51=x51
  go_simp
  go_wp2
  exact bodyPost_ret (v:=.tuple #[.agg #[.int .u32 0,.int .u64 0,.int .i64 0,.int .i64 0,.int .i64 0],.int .i64 0,.bool true]) (by simp [results,Tryz.results111,go_sem,q0,q1,q2,q3,q4]) rfl ⟨rfl,unhide HBZ⟩
end Go.Proofs.YtamafdcnbcoegabGreat
namespace Go.Proofs.YtamafdcnbcoegabGreat
open Go.RowKit
def zRecs:Nat→List Value
 | 0 => []
 | k+1 => zRecs k ++ [.int .i64 0,.int .i64 0,.string ⟨#[]⟩]
theorem length_zRecs:∀ k,(zRecs k).length=k * 3
 | 0 => rfl
 | k+1 => by rw [zRecs,List.length_append,length_zRecs k];simp;omega
theorem info_rec:(Tryz.prog.info? 150).map (fun i => (i.zero,i.size,i.bytes))=some (some (.agg #[.int .i64 0,.int .i64 0,.string ⟨#[]⟩]),3,32):=by kernel_rfl
set_option maxRecDepth 100000 in
set_option maxHeartbeats 400000 in
theorem readRecords_zero (w:World) (v:Value) (m:Nat) (last:Nat) (hat:BytesAt w v (List.replicate (m * 64) 0)) (hm1:2 ≤ m) (hm2:m ≤ 150) :
  Calls Tryz.prog 112 #[v,.int .u32 last] w fun r w' => ∃ rv,r = .returned (.tuple #[rv,.bool true])∧w'.ownsRow w.heap.size 150 3 rv (m - 2) (zRecs (m - 2))∧Below w.heap.size w w':=by
 obtain ⟨i0,hi,hz0,hz1,hz2⟩:=info_parts2 info_rec
 have hS:=fun (k:Nat) (hk:k * 64+64 ≤ m * 64) y (hb:Below w.heap.size w y) => hide (sectorAt_zero y v (m * 64) k (hat.below hb) hk (by omega))
 obtain ⟨ad,cap,rfl,hc1,hc2,hc3⟩:=hat
 clear hc3
 have hlen:(List.replicate (m * 64) (0:UInt8)).length=m * 64:=by simp
 rw [hlen] at hc1 hc2 hS ⊢
 have hq:(((m * 64:Nat):Int)).tdiv 64=(m:Int):=by rw [Int.natCast_mul];exact Int.mul_tdiv_cancel _ (by omega)
 clear hlen
 obtain ⟨n,hn⟩:∃ n,n=m * 64:=⟨_,rfl⟩
 rw [← hn] at hq hS hc1 hc2 ⊢
 have hjm:∀ j,j < m→j * 64+64 ≤ n:=by intro j hj;omega
 clear hn
 go_enter Tryz.func112,Tryz.ntmps112
 go_wp2
 go_loopw [6,7,8,9] (fun v6 i _ _ wr => ∃ j:Nat,2 ≤ j∧j ≤ m∧i = .int .i64 j∧wr.ownsRow w.heap.size 150 3 v6 (j - 2) (zRecs (j - 2))∧Below w.heap.size w wr) (fun _ i _ _ _ => m - (intOf i).toNat)
 case atStart => exact ⟨2,by omega,by omega,rfl,World.ownsRow_nil _ _ _ _,Below.refl _ _⟩
 case round =>
  obtain ⟨j,hj1,hj2,rfl,ho,hb⟩:=hrel
  by_cases hlt:j < m
  ·have HO:=hide ho
   have hSj:=unhide (hS j (hjm j hlt) wr hb)
   have HSJ:=hide hSj
   have HB:=hide hb
   have hsz:=hb.size
   have HLZ:=hide (length_zRecs (j - 2))
   clear ho hb hSj hS hjm
   have HI:=hide (And.intro hi (And.intro hz0 (And.intro hz1 hz2)))
   clear hi hz0 hz1 hz2
   go_upto_region 6 with (first
    | (go_at_call 160;refine (unhide HSJ).mono ?_;rintro r y ⟨rfl,hb1⟩)
    | (go_at_call 162;refine (readRecord_zero _ _).mono ?_;rintro r y2 ⟨rfl,hb2⟩))
   have hb12:Below wr.heap.size wr y2:=hb1.trans (hb2.mono hb1.size)
   obtain ⟨g8,hg8⟩:∃ g,g=y2.heap.size:=⟨_,rfl⟩
   rw [← hg8]
   refine wp_world (fun x => x.heap[g8]? = some (.cells #[.int .i64 0,.int .i64 0,.string ⟨#[]⟩] 150 (0,0))∧Below wr.heap.size wr x) ?_ ?_
   ·exact ⟨by rw [hg8];exact heap_alloc_new _ _,hb12.alloc hb12.size _⟩
   clear hb1 hb2 hb12 hg8
   rintro x ⟨h8,hbx⟩
   have e0:x.cell? ⟨g8,0,none⟩=some (.int .i64 0):=blk_cell (i:=0) h8
   have e1:x.cell? ⟨g8,1,none⟩=some (.int .i64 0):=blk_cell (i:=1) h8
   have e2:x.cell? ⟨g8,2,none⟩=some (.string ⟨#[]⟩):=blk_cell (i:=2) h8
   have hOx:=ownsRow_keepB (w':=x) (unhide HO) (fun g hg => hbx.block g (World.ownsRow.lt (unhide HO) g hg).2)
   have hbw:Below w.heap.size w x:=(unhide HB).trans (hbx.mono hsz)
   have HOX:=hide hOx
   have HBX:=hide hbw
   have hszx:=hbw.size
   clear h8 hbx hOx hbw HO HB
   go_upto_region 4 with (at_builtin;obtain ⟨hi,hz0,hz1,hz2⟩:=unhide HI;refine wpList_append_own _ rfl (.tmp 27) (.tmp 29) 141 rfl w.heap.size 150 i0 _ 3 32 Tryz.underlying141 hi hz0 hz1 hz2 rfl (by decide) u6 (j - 2) (zRecs (j - 2)) rfl ((unhide HOX).alloc _) ⟨x.heap.size,0,none⟩ 1 1 [.int .i64 0,.int .i64 0,.string ⟨#[]⟩] rfl rfl cells_new (by intro u hu;simp at hu;rcases hu with rfl | rfl <;> rfl) (by unfold maxLen;omega) (by omega) (by simp;omega) ?_;intro v' w1 hown' hgrow _;have hb3:Below w.heap.size x w1:=((Below.refl _ x).alloc hszx _).trans (below_grown_new (B:=w.heap.size) hgrow (by simp;omega) (fun g' hg' => (World.ownsRow.lt (unhide HOX) g' hg').1));replace hown':=hide hown';replace hb3:=hide hb3;clear hgrow hi hz0 hz1 hz2;go_simp)
   have hw:IntKind.i64.wrap ((j:Int)+1)=(j:Int)+1:=by rw [IntKind.wrap_i64];omega
   go_wp2
   refine ⟨⟨j+1,by omega,by omega,by go_num,?_,(unhide HBX).trans (unhide hb3)⟩,?_⟩
   ·have e:j+1 - 2=(j - 2)+1:=by omega
    rw [e]
    exact unhide hown'
   ·simp [intOf]
    omega
  ·have e:j=m:=by omega
   subst e
   go_wp2
   go_ret2
   exact ⟨_,rfl,ho,hb⟩
end Go.Proofs.YtamafdcnbcoegabGreat
namespace Go.Proofs.YtamafdcnbcoegabGreat
open Go.RowKit
set_option maxRecDepth 100000 in
set_option maxHeartbeats 1000000 in
theorem cloneBytes_any (w:World) (v:Value) (L:List UInt8) (hat:BytesAt w v L) (h0:0 < L.length) (hL:L.length ≤ 10000) :
  Calls Tryz.prog 163 #[v] w fun r w' => ∃ v',r = .returned v' ∧ Owns w.heap.size w' v' L∧Below w.heap.size w w':=by
 obtain ⟨ad,cap,rfl,h1,h2,h3⟩:=hat
 obtain ⟨b,off,rfl,hc⟩:=h3 h0
 obtain ⟨n,hn⟩:∃ n,n=L.length:=⟨_,rfl⟩
 rw [← hn] at h0 hL h1 h2 hc ⊢
 have HC:=hide hc
 have HN:=hide hn
 clear hc hn h3
 have hO:Owns w.heap.size (w.alloc (.cells #[] 5)) (.slice (some ⟨w.heap.size,0,none⟩) 0 0) [] :=
  ⟨by simp [bv],.inr ⟨w.heap.size,0,_,rfl,Nat.le_refl _,heap_alloc_new w _,by simp,by unfold maxLen;omega,by simp,by simp [bv]⟩⟩
 have HO:=hide hO
 clear hO
 have heq:∀ y:World,(binOp .eql 48 (.slice (some ⟨b,off,none⟩) n cap) (.slice none 0 0)).run Tryz.prog y = .ok (.bool false) y:=fun y => by
  have:=run_equal_slice_nil (P:=Tryz.prog) y 48 5 (some ⟨b,off,none⟩) n cap Tryz.underlying48
  simp [binOp,this]
 go_enter Tryz.func163,Tryz.ntmps163
 go_wp2_with (at_builtin;refine wp_app_bytes rfl (.tmp 5) (.tmp 6) rfl w.heap.size _ [] (unhide HO) rfl ⟨b,off,none⟩ n cap L rfl (unhide HN).symm (by
  intro j u hj
  have hjl:j < L.length:=by
   have:=(List.getElem?_eq_some_iff.1 hj).1
   rw [bv_length] at this;exact this
  rw [bv_get hjl] at hj
  cases hj
  have h:=(unhide HC) j (by rw [unhide HN];exact hjl)
  rw [add_mk]
  exact (World.cell?_alloc_lt w _ ⟨b,off+j,none⟩ (World.block_lt_of_cell? _ _ h)).trans h) (by simp;omega) (by simp) ?_;intro v' w' hown hg;go_simp)
 go_ret
 exact ⟨v',rfl,by simpa using hown,((Below.refl _ _).alloc (Nat.le_refl _) _).trans (below_grown_new (B:=w.heap.size) hg (by simp) (fun g hg => by simp [Value.ownBlock] at hg;omega))⟩
set_option maxHeartbeats 1000000 in
theorem diskNew_any (w:World) (v:Value) (L:List UInt8) (hat:BytesAt w v L) (h0:128 ≤ L.length) (hL:L.length ≤ 10000) :
  Calls Tryz.prog 113 #[v] w fun r w' => ∃ p lv,r = .returned (ptrTo p)∧DkAt w' p ⟨L,0,false⟩ lv (.slice none 0 0)∧Below w.heap.size w w' ∧ ∀ k,DkU p lv (.slice none 0 0) k→w.heap.size ≤ k:=by
 have HC:=hide (cloneBytes_any w v L hat (by omega) hL)
 clear hat
 unfold ptrTo
 go_enter Tryz.func113,Tryz.ntmps113
 go_wp2_with (go_at_call 163;refine (unhide HC).mono ?_;rintro r y ⟨lv,rfl,hown,hb⟩;obtain ⟨ad,cap,rfl,_⟩:=hown.shape;replace hown:=hide hown;replace hb:=hide hb)
 go_ret
 have ho:=unhide hown
 have hb:=unhide hb
 refine ⟨_,_,rfl,⟨heap_alloc_new y _,?_,rowO_nil _ _ _,⟨h0,hL⟩,by simp⟩,hb.alloc hb.size _,?_⟩
 ·exact World.ownsRow.alloc (ho.mono (Nat.zero_le _)) _
 ·rintro k (rfl | hk | hk)
  ·exact hb.size
  ·exact (ho.lt k hk).1
  ·cases hk
end Go.Proofs.YtamafdcnbcoegabGreat
namespace Go.Proofs.YtamafdcnbcoegabGreat
open Go.RowKit
def NewDk (B:Nat) (L:List UInt8) (p:Nat) (w:World):Prop:=∃ lv,DkAt w p ⟨L,0,false⟩ lv (.slice none 0 0)∧∀ k,DkU p lv (.slice none 0 0) k→B ≤ k
theorem newDk_below {B:Nat} {L:List UInt8} {p:Nat} {w x:World} (h:NewDk B L p w) (hb:Below w.heap.size w x):NewDk B L p x:=h.imp fun _ h => ⟨h.1.far (far_below (E:=fun _ => False) hb) (fun _ _ h => h),h.2⟩
def NewSt (B:Nat) (L:List UInt8) (s:Nat) (w:World):Prop:=∃ p,NewDk B L p w∧B ≤ s∧w.heap[s]? = some (.cells #[ptrTo p,.int .u32 1,.int .u64 0,.int .i64 0] 190 (0,0))
theorem newSt_below {B:Nat} {L:List UInt8} {s:Nat} {w x:World} (h:NewSt B L s w) (hb:Below w.heap.size w x):NewSt B L s x:=h.imp fun _ h => ⟨newDk_below h.1 hb,h.2.1,(hb.block _ (lt_of_block h.2.2)).trans h.2.2⟩
theorem ownsRow_monoB {w:World} {B B' size:Nat} {e:TypeId} {v:Value} {n:Nat} {xs:List Value} (h:w.ownsRow B e size v n xs) (hB:B' ≤ B):w.ownsRow B' e size v n xs:=by
 obtain ⟨h1,h2⟩:=h
 refine ⟨h1,?_⟩
 rcases h2 with h2 | ⟨g,cap,cur,rfl,hb,r⟩
 ·exact .inl h2
 ·exact .inr ⟨g,cap,cur,rfl,Nat.le_trans hB hb,r⟩
theorem size_contents:(Tryz.prog.info? 143).map (·.size)=some 4:=by kernel_rfl
set_option maxRecDepth 100000 in
set_option maxHeartbeats 2000000 in
theorem storeOpen_zero (w:World) (v:Value) (m:Nat) (hat:BytesAt w v (List.replicate (m * 64) 0)) (hm1:2 ≤ m) (hm2:m ≤ 150) :
  Calls Tryz.prog 74 #[v] w fun r w' => ∃ s dp lv uv rv,r = .returned (.tuple #[ptrTo s,.agg #[.int .i64 0,.int .i64 0,.int .i64 0,rv],.int .i64 0]) ∧
   StAt w' s dp ((⟨1,0,0,⟨List.replicate (m * 64) 0,0,false⟩⟩:Mod.Stv).putNumbers 0 0 0).2 lv uv∧(∀ k,StU s dp lv uv k→w.heap.size ≤ k)∧w'.ownsRow w.heap.size 150 3 rv (m - 2) (zRecs (m - 2))∧Below w.heap.size w w':=by
 have hH:=hide (fun y (hb:Below w.heap.size w y) => newestHead_zero y v (m * 64) (hat.below hb) (by omega) (by omega))
 have hR:=hide (fun y (hb:Below w.heap.size w y) => readRecords_zero y v m 0 (hat.below hb) hm1 hm2)
 obtain ⟨L,hL⟩:∃ L,L=List.replicate (m * 64) (0:UInt8):=⟨_,rfl⟩
 have hLl:128 ≤ L.length∧L.length ≤ 10000:=by rw [hL];simp;omega
 rw [← hL] at hat ⊢
 have hD:=hide (fun y (hb:Below w.heap.size w y) => diskNew_any y v L (hat.below hb) hLl.1 hLl.2)
 clear hat hL
 unfold zHead at hH
 unfold ptrTo
 go_enter Tryz.func74,Tryz.ntmps74
 go_upto_region 2 with (go_at_call 111;refine ((unhide hH) _ ((Below.refl _ _).alloc (Nat.le_refl _) _)).mono ?_;rintro r y ⟨rfl,hb1⟩)
 have hz1:=hb1.size
 simp only [World.size_alloc] at hz1
 have hb0:Below w.heap.size w y:=((Below.refl _ _).alloc (Nat.le_refl _) _).trans (hb1.mono (by simp))
 have hy0:=(hb1.block w.heap.size (by simp)).trans (heap_alloc_new w _)
 obtain ⟨g5,hg5⟩:∃ g,g=y.heap.size:=⟨_,rfl⟩
 rw [← hg5]
 refine wp_world (fun x => x.heap[w.heap.size]? = some (.cells #[.int .i64 0,.int .i64 0,.int .i64 0,.slice none 0 0] 143 (0,0))∧x.heap[g5]? = some (.cells #[.int .u32 0,.int .u64 0,.int .i64 0,.int .i64 0,.int .i64 0] 199 (0,0))∧Below w.heap.size w x) ?_ ?_
 ·exact ⟨(hao _ _ (by omega)).trans hy0,by rw [hg5];exact heap_alloc_new _ _,hb0.alloc (by omega) _⟩
 have hg5w:w.heap.size < g5:=by omega
 clear hy0 hb0 hz1 hb1 hg5 hH
 rintro x ⟨h0,h5,hB⟩
 have e0:x.cell? ⟨g5,0,none⟩=some (.int .u32 0):=blk_cell (i:=0) h5
 have H0:=hide h0
 have H5:=hide h5
 have HB:=hide hB
 have hzx:=lt_of_block h5
 clear h0 h5 hB
 go_upto_region 7 with (go_at_call 112;refine ((unhide hR) _ (unhide HB)).mono ?_;rintro r y2 ⟨rv,rfl,hrv,hb2⟩)
 have hrv:=ownsRow_monoB hrv (B':=w.heap.size) (by omega)
 have hbw:Below w.heap.size w y2:=(unhide HB).trans (hb2.mono (by omega))
 have y0:=(hb2.block _ (by omega)).trans (unhide H0)
 have y5:=(hb2.block _ (by omega)).trans (unhide H5)
 obtain ⟨ra,rc,rfl,_⟩:=(RowO.of_own (ownsRow_monoB hrv (Nat.zero_le _))).shape
 have HRV:=hide hrv
 have HBW:=hide hbw
 have Y0:=hide y0
 have Y5:=hide y5
 have hzy:=hbw.size
 have hg5y:=lt_of_block y5
 clear hrv hbw y0 y5 hb2 HB H0 H5 hR e0 hzx
 refine wp_region_foot (by kernel_rfl)
  [fun u _ => u=v,fun u z => ∃ p,u = .pointer (some ⟨p,0,none⟩)∧NewDk w.heap.size L p z,fun u _ => u = .pointer (some ⟨g5,0,none⟩),fun u _ => u = .pointer (some ⟨g5,0,none⟩),fun u _ => u = .int .u32 0,fun u _ => u = .int .u32 1,fun u _ => u = .agg #[.int .u32 1,.int .u64 0],fun u _ => u = .int .i64 0,
   fun u z => ∃ p,u = .agg #[.pointer (some ⟨p,0,none⟩),.int .u32 1,.int .u64 0,.int .i64 0] ∧ NewDk w.heap.size L p z,fun u z => ∃ s,u = .pointer (some ⟨s,0,none⟩)∧NewSt w.heap.size L s z,fun u z => ∃ s,u = .pointer (some ⟨s,0,none⟩)∧NewSt w.heap.size L s z]
  [[(0,none)],[(30,some 0)],[(5,none)],[(32,some 2)],[(33,some 3)],[(34,some 4)],[(35,some 5)],[(6,none)],[(31,some 1),(36,some 6),(37,some 7)],[(38,some 8)],[(39,some 9)]] [some 30,some 31,some 32,some 33,some 34,some 35,some 36,some 37,some 38,some 39,some 9] [false,false,false,false,false,false,false,false,false,true,false,false,false,false,false,false,false,false,false,false,false,false,false,false,false,false,false,false,false,false,true,true,true,true,true,true,true,true,true,true,false,false,false,false,false,false,false,false,false]
  []
  (by kernel_rfl) (by kernel_rfl) (by kernel_rfl) (by kernel_rfl) (by kernel_rfl) ?_ ?_ ?_ ?_
 ·repeat' (first | exact stable_eq _ | exact (fun _ _ _ h hb => h.imp fun _ h => ⟨h.1,newDk_below h.2 hb⟩) | exact (fun _ _ _ h hb => h.imp fun _ h => ⟨h.1,newSt_below h.2 hb⟩) | exact trivial | apply And.intro)
 ·exact trivial
 ·refine ⟨?_,?_,?_,?_,?_,?_,?_,?_,?_,?_,?_,trivial⟩
  all_goals
   intro a z hb hf
   have z5:=hb.blk (unhide Y5) (footBut_no (by intro q hq;cases hq))
   have hbz:Below w.heap.size w z:=(unhide HBW).trans ((hb.below (B:=y2.heap.size) (Nat.le_refl _) (fun j _ h => by
    obtain ⟨q,hq,_⟩:=h
    cases hq)).mono hzy)
   have e0:z.cell? ⟨g5,0,none⟩=some (.int .u32 0):=blk_cell (i:=0) z5
   have HBZ:=hide hbz
   clear z5 hb hbz
   simp only [PlanFacts,List.getD_cons_zero,List.getD_cons_succ,Array.getD_eq_getD_getElem?] at hf
   try simp at hf
  ·go_simp
   exact ⟨_,rfl,Far.refl _ _,rfl⟩
  ·have HC:=hide ((unhide hD) z (unhide HBZ))
   have hzz:=(unhide HBZ).size
   unfold ptrTo at HC
   go_simp
   refine (unhide HC).mono ?_
   rintro r z2 ⟨p,lv,rfl,k1,k2,k3⟩
   exact ⟨_,rfl,far_below k2,p,rfl,lv,k1,fun k hk => Nat.le_trans hzz (k3 k hk)⟩
  iterate 6
   ·go_simp
    exact ⟨_,rfl,Far.refl _ _,rfl⟩
  ·obtain ⟨⟨p,hp,hn⟩,hf⟩:=hf
   have HN:=hide hn
   clear hn
   go_simp
   exact ⟨_,rfl,Far.refl _ _,p,rfl,unhide HN⟩
  ·obtain ⟨p,hp,hn⟩:=hf
   have HN:=hide hn
   have hzz:=(unhide HBZ).size
   clear hn
   go_simp
   refine ⟨_,rfl,far_below ((Below.refl _ _).alloc (Nat.le_refl _) _),_,rfl,p,newDk_below (unhide HN) ((Below.refl _ _).alloc (Nat.le_refl _) _),hzz,heap_alloc_new _ _⟩
  ·obtain ⟨s,hs,hn⟩:=hf
   have HN:=hide hn
   clear hn
   go_simp
   exact ⟨_,rfl,Far.refl _ _,s,rfl,unhide HN⟩
 ·intro f z hF hwd
  obtain ⟨s,hs9,dp,⟨lv,hdk,hnew⟩,hsB,hsb⟩:=hwd.2.2.2.2.2.2.2.2.2.2.1
  have hbz:Below y2.heap.size y2 z:=hF.below (Nat.le_refl _) (fun j _ h => by
   obtain ⟨q,hq,_⟩:=h
   cases hq)
  have ST:StAt z s dp ⟨1,0,0,⟨L,0,false⟩⟩ lv (.slice none 0 0):=⟨hsb,hdk,by simp,by simp,by simp⟩
  have hnewS:∀ k,StU s dp lv (.slice none 0 0) k→w.heap.size ≤ k:=by
   rintro k (rfl | hk)
   ·exact hsB
   ·exact hnew k hk
  have z0:=(hbz.block _ (by omega)).trans (unhide Y0)
  have z5:=(hbz.block _ hg5y).trans (unhide Y5)
  have e2:z.cell? ⟨g5,2,none⟩=some (.int .i64 0):=blk_cell (i:=2) z5
  have e3:z.cell? ⟨g5,3,none⟩=some (.int .i64 0):=blk_cell (i:=3) z5
  have e4:z.cell? ⟨g5,4,none⟩=some (.int .i64 0):=blk_cell (i:=4) z5
  have HW:=hide (writeNumbers_any z s dp _ lv _ ST 0 0 0 (by omega) (by omega) (by omega))
  have hrz:=ownsRow_keepB (w':=z) (unhide HRV) (fun g hg => hbz.block g (World.ownsRow.lt (unhide HRV) g hg).2)
  have HRZ:=hide hrz
  have HBZ:=hide ((unhide HBW).trans (hbz.mono hzy))
  have Z0:=hide z0
  have Z5:=hide z5
  have hSn:¬ StU s dp lv (.slice none 0 0) w.heap.size:=by
   rintro (h | h)
   ·rw [← h,z0] at hsb
    cases hsb
   ·exact dk_ne hdk z0 (by decide) (by decide) (by decide) h
  have hS5:¬ StU s dp lv (.slice none 0 0) g5:=by
   rintro (h | h)
   ·rw [← h,z5] at hsb
    cases hsb
   ·exact dk_ne hdk z5 (by decide) (by decide) (by decide) h
  have hSr:∀ g,(Value.slice ra (m - 2) rc).ownBlock=some g→¬ StU s dp lv (.slice none 0 0) g:=by
   rintro g hg (h | h | h | h)
   ·exact (RowO.of_own (ownsRow_monoB hrz (Nat.zero_le _))).ne hsb (by decide) (by rw [hg,h])
   ·exact (RowO.of_own (ownsRow_monoB hrz (Nat.zero_le _))).ne hdk.blk (by decide) (by rw [hg,h])
   ·exact (RowO.of_own (ownsRow_monoB hrz (Nat.zero_le _))).ty (RowO.of_own hdk.row) (by decide) hg h
   ·cases h
  have hzz:=hbz.size
  clear hwd hF hbz z0 z5 hdk hsb hrz HRV HBW Y0 Y5 hD ST
  simp only [mergeT,hs9]
  generalize f 30=x30
  generalize f 31=x31
  generalize f 32=x32
  generalize f 33=x33
  generalize f 34=x34
  generalize f 35=x35
  generalize f 36=x36
  generalize f 37=x37
  generalize f 38=x38
  generalize f 39=x39
  go_simp
  unfold ptrTo at HW
  go_upto_region 9 with (go_at_call 114;refine (unhide HW).mono ?_;rintro r z2 ⟨rfl,uv,k1,k2,k3⟩;replace k1:=hide k1;replace k2:=hide k2;replace k3:=hide k3)
  have K3:=unhide k3
  have z0:=K3.blk (unhide Z0) hSn
  have z5:=K3.blk (unhide Z5) hS5
  have hr2:=ownsRow_keepB (w':=z2) (unhide HRZ) (fun g hg => K3.rest g (World.ownsRow.lt (unhide HRZ) g hg).2 (hSr g hg))
  have hbz2:Below w.heap.size w z2:=(unhide HBZ).trans (K3.below (by omega) (fun k hk h => by have:=hnewS k h;omega))
  have HR2:=hide hr2
  have HB2:=hide hbz2
  have Z0':=hide z0
  have Z5':=hide z5
  have hz2:=hbz2.size
  have hz2g:=lt_of_block z5
  have hzn:=lt_of_block z0
  clear K3 z0 z5 hr2 hbz2 HRZ HBZ Z0 Z5 e2 e3 e4 HW
  refine wp_region_foot (by kernel_rfl)
   [fun u _ => u = .pointer (some ⟨s,0,none⟩),fun u _ => u = .pointer (some ⟨g5,2,none⟩),fun u _ => u = .agg #[.int .i64 0,.int .i64 0,.int .i64 0],fun u _ => u = .slice ra (m - 2) rc,fun u _ => u = .agg #[.int .i64 0,.int .i64 0,.int .i64 0,.slice ra (m - 2) rc],fun u _ => u = .pointer (some ⟨s,0,none⟩),
    fun _ q => q.heap[w.heap.size]? = some (.cells #[.int .i64 0,.int .i64 0,.int .i64 0,.slice ra (m - 2) rc] 143 (0,0)),fun u _ => u = .int .i64 0]
   [[(9,none)],[(5,none)],[(45,some 1)],[(8,none)],[(46,some 2),(47,some 3)],[(44,some 0)],[(3,none),(48,some 4)],[]] [some 44,some 45,some 46,some 47,some 48,some 2,none,some 4] [false,false,true,false,true,false,false,false,false,false,false,false,false,false,false,false,false,false,false,false,false,false,false,false,false,false,false,false,false,false,false,false,false,false,false,false,false,false,false,false,false,false,false,false,true,true,true,true,true]
   [(6,fun k => k=w.heap.size)]
   (by kernel_rfl) (by kernel_rfl) (by kernel_rfl) (by kernel_rfl) (by kernel_rfl) ?_ ?_ ?_ ?_
  ·repeat' (first | exact stable_eq _ | exact stable_blk _ _ | exact trivial | apply And.intro)
  ·repeat' (first | exact trivial | exact .inl rfl | exact .inr (.inr (stableF_eq _ _)) | apply And.intro)
  ·refine ⟨?_,?_,?_,?_,?_,?_,?_,?_,trivial⟩
   all_goals
    intro a q hb hf
    have q5:=hb.blk (unhide Z5') (footBut_no (by intro p hp;simp at hp;subst hp;intro (e:g5=w.heap.size);omega))
    have e2:q.cell? ⟨g5,2,none⟩=some (.int .i64 0):=blk_cell (i:=2) q5
    have e3:q.cell? ⟨g5,3,none⟩=some (.int .i64 0):=blk_cell (i:=3) q5
    have e4:q.cell? ⟨g5,4,none⟩=some (.int .i64 0):=blk_cell (i:=4) q5
    clear q5
    simp only [PlanFacts,List.getD_cons_zero,List.getD_cons_succ,Array.getD_eq_getD_getElem?] at hf
    try simp at hf
   iterate 6
    ·clear hb
     go_simp
     exact ⟨_,rfl,Far.refl _ _,rfl⟩
   ·have q0:=hb.blk (unhide Z0') (by
     rintro ⟨p,hp,g1,g2,g3⟩
     simp at hp
     subst hp
     exact g1 rfl)
    clear hb
    rw [if_pos (by rfl)]
    refine wp_store_row 143 (.tmp 3) (.tmp 48) rfl w.heap.size #[.int .i64 0,.int .i64 0,.int .i64 0,.slice ra (m - 2) rc] (by simp [Act.eval,hf]) (by simp [Act.eval,hf]) 143 _ q0 (by rw [size_contents];rfl) rfl (by rw [Array.all_eq_true_iff_forall_mem];intro u hu;simp at hu;rcases hu with rfl | rfl <;> rfl) ?_
    exact ⟨_,rfl,footOf_of (.head _) (far_setRow _ _ _),setRow_heap _ _ _ _ _ _ q0⟩
   ·clear hb
    go_simp
    exact ⟨_,rfl,Far.refl _ _,rfl⟩
  ·intro f q hF hwd
   have h2:=hwd.2.2.2.2.2.1
   have h6:=hwd.2.2.2.2.2.2.1
   have h7:=hwd.2.2.2.2.2.2.2.1
   have q0:q.cell? ⟨w.heap.size,0,none⟩=some (.int .i64 0):=blk_cell (i:=0) h6
   have q1:q.cell? ⟨w.heap.size,1,none⟩=some (.int .i64 0):=blk_cell (i:=1) h6
   have q2:q.cell? ⟨w.heap.size,2,none⟩=some (.int .i64 0):=blk_cell (i:=2) h6
   have q3:q.cell? ⟨w.heap.size,3,none⟩=some (.slice ra (m - 2) rc):=blk_cell (i:=3) h6
   have hF:Far (fun k => k=w.heap.size) z2 q:=hF.mono (fun k _ h => by
    obtain ⟨p,hp,h⟩:=h
    simp at hp
    subst hp
    exact h)
   have HF:=hide hF
   clear hwd hF h6
   simp only [mergeT,h2,h7]
   generalize f 44=x44
   generalize f 45=x45
   generalize f 46=x46
   generalize f 47=x47
   generalize f 48=x48
   go_simp
   go_wp2
   refine bodyPost_ret (v:=.tuple #[.pointer (some ⟨s,0,none⟩),.agg #[.int .i64 0,.int .i64 0,.int .i64 0,.slice ra (m - 2) rc],.int .i64 0]) (by simp [results,Tryz.results74,go_sem,q0,q1,q2,q3]) rfl ?_
   have hF:=unhide HF
   have K2:=unhide k2
   have hnu:∀ k,StU s dp lv uv k→w.heap.size ≤ k:=by
    rintro k (h | h | h | h)
    ·exact hnewS k (.inl h)
    ·exact hnewS k (.inr (.inl h))
    ·exact hnewS k (.inr (.inr (.inl h)))
    ·rcases K2 with k2 | k2 | ⟨g,k2,k5⟩
     ·rw [k2] at h;cases h
     ·rw [k2] at h;cases h
     ·rw [k2] at h;cases h;omega
   have hne:¬ StU s dp lv uv w.heap.size:=by
    rintro (h | h | h | h)
    ·exact hSn (.inl h)
    ·exact hSn (.inr (.inl h))
    ·exact hSn (.inr (.inr (.inl h)))
    ·exact (unhide k1).dk.un.ne (unhide Z0') (by decide) h
   exact ⟨s,dp,lv,uv,_,rfl,(unhide k1).far hF (fun k hk e => hne (by rw [← e];exact hk)),hnu,ownsRow_keepB (unhide HR2) (fun g hg => hF.rest g (World.ownsRow.lt (unhide HR2) g hg).2 (fun e => (RowO.of_own (ownsRow_monoB (unhide HR2) (Nat.zero_le _))).ne (unhide Z0') (by decide) (by rw [hg,e]))),(unhide HB2).trans (hF.below (by omega) (fun k hk e => by omega))⟩
end Go.Proofs.YtamafdcnbcoegabGreat
namespace Go.Proofs.YtamafdcnbcoegabGreat
open Go.RowKit
def holdIt (a:Mod.Sk) (s q:Nat) (b:ByteArray):Mod.Sk :=
 if (a.logs s).length+2 ≤ q∧q ≤ (a.logs s).length+4∧a.ix s q=none then { a with held:=a.held ++ [(s,q,b)] } else a
theorem holdIt_epoch (a:Mod.Sk) (s q:Nat) (b:ByteArray):(holdIt a s q b).epoch=a.epoch:=by
 unfold holdIt
 split <;> rfl
end Go.Proofs.YtamafdcnbcoegabGreat
namespace Go.Proofs.YtamafdcnbcoegabGreat
open Go.RowKit
def grown (a:Mod.Sk) (s:Nat) (got:List ByteArray):Mod.Sk:={ a with logs:=fun t => if t=s then a.logs s ++ got else a.logs t }
theorem grown_count (a:Mod.Sk) (s:Nat) (hs:s < 3) (got:List ByteArray):(grown a s got).count=a.count+got.length:=by
 obtain rfl | rfl | rfl:s=0 ∨ s=1 ∨ s=2:=by omega
 all_goals
  simp [grown,Mod.Sk.count]
  omega
def takeIt (a:Mod.Sk) (s:Nat) (got:List ByteArray):Mod.Sk:=(grown a s got).forget s (a.logs s ++ got).length
end Go.Proofs.YtamafdcnbcoegabGreat
namespace Go.Proofs.YtamafdcnbcoegabGreat
open Go.RowKit
def skAfter (a:Mod.Sk) (k e:Int) (s qn:Nat) (b:ByteArray):Mod.Sk:=if a.commits k e s qn b = [] then holdIt a s qn b else takeIt a s (a.commits k e s qn b)
theorem holdIt_logs (a:Mod.Sk) (s q:Nat) (b:ByteArray):(holdIt a s q b).logs=a.logs:=by
 unfold holdIt
 split <;> rfl
theorem takeIt_logs (a:Mod.Sk) (s:Nat) (got:List ByteArray):(takeIt a s got).logs s=a.logs s ++ got:=by simp [takeIt,grown,Mod.Sk.forget]
def skAck (a:Mod.Sk) (k e:Int) (s qn:Nat) (b:ByteArray):ByteArray :=
 ⟨(Wire.bytes 4 a.epoch s ((skAfter a k e s qn b).logs s).length (ackBody (skAfter a k e s qn b) s ((skAfter a k e s qn b).logs s).length).data.toList).toArray⟩
end Go.Proofs.YtamafdcnbcoegabGreat
namespace Go.Proofs.YtamafdcnbcoegabGreat
open Go.RowKit
def fenceOf (n:Nat):ByteArray:=⟨(Wire.bytes 5 n 0 0 []).toArray⟩
end Go.Proofs.YtamafdcnbcoegabGreat
namespace Go.Proofs.YtamafdcnbcoegabGreat
open Go.RowKit
def welB (a:Mod.Sk):ByteArray:=le4S (a.logs 0).length ++ le4S (a.logs 1).length ++ le4S (a.logs 2).length
def skWel (a:Mod.Sk) (e:Nat):ByteArray:=⟨(Wire.bytes 2 e 0 0 (welB a).data.toList).toArray⟩
def helloHeld (a:Mod.Sk) (e:Nat):List (Nat × Nat × ByteArray):=if a.epoch < e then [] else a.held
def helloIt (a:Mod.Sk) (e:Nat):Mod.Sk:={ a with epoch:=e,held:=helloHeld a e }
theorem wel_data (a b c:Int):(le4S a ++ le4S b ++ le4S c).data.toList=Wire.le4 a ++ Wire.le4 b ++ Wire.le4 c:=by
 simp [ByteArray.data_append,le4S_data]
theorem wel_proper {e n0 n1 n2:Nat} (he:e ≤ 2147483647) (h0:n0 ≤ 120) (h1:n1 ≤ 120) (h2:n2 ≤ 120):Wire.proper 2 e 0 0 (le4S n0 ++ le4S n1 ++ le4S n2)=true:=by
 have hs:(le4S n0 ++ le4S n1 ++ le4S n2).size=12:=by simp [ByteArray.size_append,le4S_size]
 have a0:n0 % 256=n0:=by omega
 have a1:n1 % 256=n1:=by omega
 have a2:n2 % 256=n2:=by omega
 simp only [Wire.proper,Wire.welBody,wel_data,hs]
 simp [Wire.isNum,Wire.numAt,Wire.num4,Wire.le4]
 omega
end Go.Proofs.YtamafdcnbcoegabGreat
namespace Go.Proofs.YtamafdcnbcoegabGreat
open Go.RowKit
def skReply (a:Mod.Sk) (k e:Int) (s q:Nat) (b:ByteArray):Mod.Sk × List ByteArray :=
 if k=1 then (if e < a.epoch then (a,[fenceOf a.epoch]) else (helloIt a e.toNat,[skWel a e.toNat]))
 else if k=3 then (if e=a.epoch then (skAfter a k e s q b,[skAck a k e s q b]) else (a,[fenceOf (max e.toNat a.epoch)]))
 else (a,[])
structure SkGood (a:Mod.Sk):Prop where
 held:∀ h ∈ a.held,h.1 < 3∧(a.logs h.1).length+1 ≤ h.2.1∧h.2.1 ≤ (a.logs h.1).length+4
 once:(a.held.map fun h => (h.1,h.2.1)).Nodup
 room:a.count ≤ 120
 ep:a.epoch ≤ 2147483647
theorem nodup_lt:∀ (n:Nat) (l:List Nat),l.Nodup→(∀ x ∈ l,x < n)→l.length ≤ n
 | 0,[],_,_ => Nat.le_refl _
 | 0,x :: l,_,h => by have:=h x (.head _);omega
 | n+1,l,hn,h => by
  by_cases hm:n ∈ l
  ·have h1:=List.length_erase_of_mem hm
   have h2:=nodup_lt n (l.erase n) (hn.erase n) (fun x hx => by
    have h3:=(hn.mem_erase_iff).1 hx
    have:=h x h3.2
    have:=h3.1
    omega)
   omega
  ·have:=nodup_lt n l hn (fun x hx => by
    have:=h x hx
    have:x ≠ n:=fun e => hm (e ▸ hx)
    omega)
   omega
theorem count_len {a:Mod.Sk} {s:Nat} (hs:s < 3):(a.logs s).length ≤ a.count:=by
 obtain rfl | rfl | rfl:s=0 ∨ s=1 ∨ s=2:=by omega
 all_goals
  unfold Mod.Sk.count
  omega
theorem ixFrom_no {st q:Nat}:∀ {l:List (Nat × Nat × ByteArray)} {i:Nat},Mod.ixFrom st q i l=none→∀ h ∈ l,¬ (h.1=st∧h.2.1=q)
 | [],_,_,h,hh => by cases hh
 | x :: l,i,hn,h,hh => by
  rw [Mod.ixFrom] at hn
  split at hn
  ·cases hn
  ·rename_i hx
   cases hh with
   | head => exact hx
   | tail _ hh => exact ixFrom_no hn h hh
theorem skGood_new:SkGood { epoch:=0,logs:=fun _ => [],held:=[] }:=⟨by simp,by simp,by simp [Mod.Sk.count],by simp⟩
theorem skGood_hold {a:Mod.Sk} (G:SkGood a) (s q:Nat) (b:ByteArray) (hs:s < 3):SkGood (holdIt a s q b):=by
 unfold holdIt
 split
 ·rename_i h
  obtain ⟨h1,h2,h3⟩:=h
  refine ⟨fun x hx => ?_,?_,G.room,G.ep⟩
  ·simp only [List.mem_append,List.mem_singleton] at hx
   rcases hx with hx | rfl
   ·exact G.held x hx
   ·exact ⟨hs,by show (a.logs s).length+1 ≤ q;omega,h2⟩
  ·simp only [List.map_append,List.map_cons,List.map_nil]
   rw [List.nodup_append]
   refine ⟨G.once,by simp,?_⟩
   rintro x hx y hy rfl
   simp only [List.mem_singleton] at hy
   obtain ⟨h,hh,rfl⟩:=List.mem_map.1 hx
   exact ixFrom_no h3 h hh ⟨congrArg Prod.fst hy,congrArg Prod.snd hy⟩
 ·exact G
theorem skGood_take {a:Mod.Sk} (G:SkGood a) (s:Nat) (got:List ByteArray) (hs:s < 3) (hr:a.count+got.length ≤ 120):SkGood (takeIt a s got):=by
 have hlog:∀ t,((takeIt a s got).logs t).length=if t=s then (a.logs s).length+got.length else (a.logs t).length:=by
  intro t
  show ((grown a s got).logs t).length=_
  unfold grown
  by_cases h:t=s
  ·simp [h]
  ·simp [h]
 refine ⟨fun h hh => ?_,?_,?_,G.ep⟩
 ·have hh':h ∈ a.held.filter (Mod.keeps s (a.logs s ++ got).length):=hh
  obtain ⟨h1,h2⟩:=List.mem_filter.1 hh'
  obtain ⟨g1,g2,g3⟩:=G.held h h1
  rw [hlog]
  refine ⟨g1,?_⟩
  by_cases e:h.1=s
  ·rw [if_pos e]
   unfold Mod.keeps at h2
   rw [e] at g2 g3
   simp [e] at h2
   omega
  ·rw [if_neg e]
   exact ⟨g2,g3⟩
 ·exact G.once.sublist ((List.filter_sublist (p:=Mod.keeps s (a.logs s ++ got).length) (l:=a.held)).map _)
 ·have:(takeIt a s got).count=(grown a s got).count:=rfl
  rw [this,grown_count a s hs got]
  exact hr
theorem skGood_hello {a:Mod.Sk} (G:SkGood a) (e:Nat) (he:e ≤ 2147483647):SkGood (helloIt a e):=by
 unfold helloIt helloHeld
 split
 ·exact ⟨by simp,by simp,G.room,he⟩
 ·exact ⟨G.held,G.once,G.room,he⟩
theorem skGood_reply {a:Mod.Sk} (G:SkGood a) (k e:Int) (s q:Nat) (b:ByteArray) (hs:s < 3) (he:e ≤ 2147483647):SkGood (skReply a k e s q b).1:=by
 unfold skReply
 split
 ·split
  ·exact G
  ·exact skGood_hello G _ (by omega)
 ·split
  ·split
   ·show SkGood (skAfter a k e s q b)
    unfold skAfter
    split
    ·exact skGood_hold G s q b hs
    ·exact skGood_take G s _ hs (commits_room k e s q b G.room)
   ·exact G
  ·exact G
end Go.Proofs.YtamafdcnbcoegabGreat
namespace Go.Proofs.YtamafdcnbcoegabGreat
open Go.RowKit
theorem says_le (a:Mod.Ag) (k e st q:Int) (b:ByteArray) (s:Nat):a.says k e st q b s ≤ (a.fl s).kept.length:=by
 unfold Mod.Ag.says
 split
 ·omega
 ·split
  ·unfold Mod.Ag.gone;omega
  ·split
   ·unfold Mod.Ag.gone;omega
   ·omega
end Go.Proofs.YtamafdcnbcoegabGreat
namespace Go.Proofs.YtamafdcnbcoegabGreat
open Go.RowKit
theorem bit0:∀ n:Fin 256,(bits BinOp.and IntKind.u8 ((n.val:Nat):Int) 1 == 1)=decide (n.val % 2=1):=by decide +kernel
theorem bit1:∀ n:Fin 256,(bits BinOp.and IntKind.u8 (((n.val:Nat):Int) / 2) 1 == 1)=decide (n.val / 2 % 2=1):=by decide +kernel
theorem bit2:∀ n:Fin 256,(bits BinOp.and IntKind.u8 (((n.val:Nat):Int) / 4) 1 == 1)=decide (n.val / 4 % 2=1):=by decide +kernel
theorem bitsOf_len (q c:Nat):∀ i,(Mod.bitsOf q c i).length ≤ i
 | 0 => by simp [Mod.bitsOf]
 | i+1 => by
  have:=bitsOf_len q c i
  simp only [Mod.bitsOf,List.length_append]
  split <;> simp <;> omega
theorem numCells_snoc (l:List Nat) (n:Nat):numCells (l ++ [n])=numCells l ++ [.int .i64 (n:Int)]:=by simp [numCells]
end Go.Proofs.YtamafdcnbcoegabGreat
namespace Go.Proofs.YtamafdcnbcoegabGreat
open Go.RowKit
theorem proper_2 {e st q:Int} {b:ByteArray} (h:Wire.proper 2 e st q b=true):b.size=12:=by
 simp [Wire.proper,Wire.welBody] at h
 omega
theorem proper_4 {e st q:Int} {b:ByteArray} (h:Wire.proper 4 e st q b=true):b.size=1∧(0 ≤ st∧st < 3)∧0 ≤ q∧q ≤ 2147483647:=by
 simp [Wire.proper,Wire.isStr,Wire.isNum,Wire.ackBody] at h
 omega
end Go.Proofs.YtamafdcnbcoegabGreat
namespace Go.Proofs.YtamafdcnbcoegabGreat
open Go.RowKit
theorem sendTo_len (e s:Nat) (f:Mod.Flow) (t:Nat):∀ i,(Mod.sendTo e s f t i).1.length=f.kept.length
 | 0 => rfl
 | i+1 => by
  have:=sendTo_len e s f t i
  simp only [Mod.sendTo]
  split
  ·exact this
  ·split
   ·simp [this]
   ·exact this
theorem sendTo_get (e s:Nat) (f:Mod.Flow) (t:Nat):∀ i j,i ≤ j→(Mod.sendTo e s f t i).1[j]? = f.kept[j]?
 | 0,_,_ => rfl
 | i+1,j,h => by
  have:=sendTo_get e s f t i j (by omega)
  simp only [Mod.sendTo]
  split
  ·exact this
  ·split
   ·simp only
    rw [List.getElem?_set_ne (by omega)]
    exact this
   ·exact this
theorem sendTo_skip {e s:Nat} {f:Mod.Flow} {t i:Nat} (h:i < f.kept.length) (hd:Mod.due f t i f.kept[i].2=false):Mod.sendTo e s f t (i+1)=Mod.sendTo e s f t i:=by
 simp only [Mod.sendTo,List.getElem?_eq_getElem h,hd]
 rfl
theorem sendTo_send {e s:Nat} {f:Mod.Flow} {t i:Nat} (h:i < f.kept.length) (hd:Mod.due f t i f.kept[i].2=true) :
  Mod.sendTo e s f t (i+1)=((Mod.sendTo e s f t i).1.set i (f.kept[i].1,t),(Mod.sendTo e s f t i).2 ++ [Wire.bytes 3 e s (f.base+1+i:Nat) f.kept[i].1.data.toList]):=by
 simp only [Mod.sendTo,List.getElem?_eq_getElem h,hd]
 rfl
theorem sendTo_over {e s:Nat} {f:Mod.Flow} {t i:Nat} (h:f.kept.length ≤ i):Mod.sendTo e s f t (i+1)=Mod.sendTo e s f t i:=by
 simp only [Mod.sendTo,List.getElem?_eq_none_iff.2 h]
theorem sendTo_four {e s:Nat} {f:Mod.Flow} {t i:Nat} (h:f.kept.length ≤ i ∨ i=4) (h4:i ≤ 4):Mod.sendTo e s f t 4=Mod.sendTo e s f t i:=by
 rcases h with h | h
 ·obtain rfl | rfl | rfl | rfl | rfl:i=0 ∨ i=1 ∨ i=2 ∨ i=3 ∨ i=4:=by omega
  ·rw [sendTo_over (i:=3) (by omega),sendTo_over (i:=2) (by omega),sendTo_over (i:=1) (by omega),sendTo_over (i:=0) (by omega)]
  ·rw [sendTo_over (i:=3) (by omega),sendTo_over (i:=2) (by omega),sendTo_over (i:=1) (by omega)]
  ·rw [sendTo_over (i:=3) (by omega),sendTo_over (i:=2) (by omega)]
  ·rw [sendTo_over (i:=3) (by omega)]
  ·rfl
 ·rw [h]
end Go.Proofs.YtamafdcnbcoegabGreat
namespace Go.Proofs.YtamafdcnbcoegabGreat
open Go.RowKit
def ListAt (w:World) (v:Value) (xs:List Value):Prop :=
 ∃ ad cap,v = .slice ad xs.length cap∧xs.length ≤ cap∧cap ≤ maxLen∧(0 < xs.length→∃ g o,ad=some ⟨g,o,none⟩∧g < w.heap.size∧∀ i,i < xs.length→w.cell? ⟨g,o+i,none⟩=xs[i]?)
theorem listAt_own {B:Nat} {w:World} {e:TypeId} {v:Value} {n:Nat} {xs:List Value} (h:w.ownsRow B e 1 v n xs):ListAt w v xs:=by
 have hn:xs.length=n:=by have:=h.1;omega
 subst hn
 have h0:=h
 obtain ⟨h1,h2⟩:=h
 rcases h2 with ⟨e1,h2⟩ | ⟨g,cap,cur,e1,hB,hh,hc1,hc2,_,ht⟩
 ·exact ⟨none,0,by rw [h2];exact e1,by omega,by unfold maxLen;omega,fun h => by omega⟩
 ·subst e1
  exact ⟨_,cap,rfl,hc1,hc2,fun _ => ⟨g,0,rfl,lt_of_block hh,fun i hi => by rw [Nat.zero_add];exact World.ownsRow.cellAt h0 i (by omega)⟩⟩
end Go.Proofs.YtamafdcnbcoegabGreat
namespace Go.Proofs.YtamafdcnbcoegabGreat
open Go.RowKit
def Done (fs:List Value) (i b:Nat):Prop:=∃ j,j < i∧∃ v,fs[j]? = some v∧v.ownBlock=some b
end Go.Proofs.YtamafdcnbcoegabGreat
namespace Go.Proofs.YtamafdcnbcoegabGreat
open Go.RowKit
def lateB (ops:Array Oper) (c:Nat):Bool:=(List.range ops.size).all fun k => decide (k ≤ c) || (List.range ops.size).any fun j => decide (c ≤ j) && depB ops k j
def doneTo (c n:Nat):Array Bool:=((List.range n).map fun k => decide (k ≤ c)).toArray
theorem countP_range_le (i:Nat):∀ n,i ≤ n→(List.range n).countP (fun k => decide (i ≤ k))=n - i
 | 0,h => by simp
 | n+1,h => by
  rw [List.range_succ,List.countP_append,List.countP_singleton]
  by_cases hin:i ≤ n
  ·rw [countP_range_le i n hin];simp [hin];omega
  ·have:i=n+1:=by omega
   subst this
   have h0:(List.range n).countP (fun k => decide (n+1 ≤ k))=0:=by
    rw [List.countP_eq_zero]
    intro k hk
    have:=List.mem_range.1 hk
    simp;omega
   rw [h0];simp
section
variable {P:Program} {ops:Array Oper} {Q:Exit→Act→World→Prop}
theorem mono_any_cut {a0:Act} {w0:World} (Φ:Nat→Value→World→Prop) (hok:monoOk ops a0.tmps.size=true) (last:Nat) (hn:last < ops.size) (hcov:coverB ops last=true) (hlate:lateB ops last=true)
  (hst:∀ i v w w',Φ i v w→Below w.heap.size w w' → Φ i v w')
  (hop:∀ i o,i < last→ops[i]? = some o→∀ a w,Below w0.heap.size w0 w→GoodAct ops Φ a0 i o a w →
   if Region.wanted o (yielded ops a.tmps)=true then o.wp P a w (fun a' w' => ∃ v,a' = a.put o.dst v∧Below w.heap.size w w' ∧ Φ i v w') Q else Φ i undef w)
  (hend:∀ a w,Below w0.heap.size w0 w→(∀ i o d,i < last→ops[i]? = some o→o.dst=some d→Φ i (a.tmps.getD d undef) w)→(∀ t,(∀ j,wr ops t=some j→last ≤ j)→a.tmps.getD t undef=a0.tmps.getD t undef)→a.defers=a0.defers→a.tmps.size=a0.tmps.size→wpOp P ops Q last (fun a' w' => ∀ fuel,ops.size ≤ fuel+last+1→wpAny P .any ops Q fuel (doneTo last ops.size) a' w') a w) :
  ∀ (fuel:Nat) (L:Array Bool) (a:Act) (w:World),MonoInv ops Φ a0 w0 L a w→(∀ k,last ≤ k→L.getD k false=false)→(List.range ops.size).countP (fun i => !L.getD i false) ≤ fuel→wpAny P .any ops Q fuel L a w:=by
 have hrdy:∀ (L:Array Bool) (a:Act) (w:World),MonoInv ops Φ a0 w0 L a w→L.getD last false=false→Region.ready .any ops L = [] → False:=by
  intro L a w hI hlast hr
  have hall:∀ n i,i < n→i < ops.size→L.getD i false=true:=by
   intro n
   induction n with
   | zero => intro i h;omega
   | succ n ih =>
    intro i h hi
    by_cases hin:i < n
    ·exact ih i hin hi
    ·have e:i=n:=by omega
     subst e
     cases hL:L.getD i false
     ·exfalso
      have ho:ops[i]? = some ops[i]:=Array.getElem?_eq_getElem hi
      obtain ⟨_,_,h3⟩:=monoOk_spec hok ho
      have:i ∈ Region.ready .any ops L:=mem_ready.2 ⟨by
       have hs:i < L.size:=by rw [hI.size];exact hi
       rw [Array.getD_eq_getD_getElem?,Array.getElem?_eq_getElem hs] at hL ⊢
       exact hL,ops[i],ho,fun e he hb => by
       have hd:depB ops i e.on=true:=by
        unfold depB
        rw [ho]
        exact Array.any_eq_true'.2 ⟨e,he,by simp [hb]⟩
       have hlt:=h3 _ hd
       exact ih e.on hlt (by omega)⟩
      rw [hr] at this
      cases this
     ·rfl
  have:=hall ops.size last (by omega) (by omega)
  rw [hlast] at this;cases this
 have hcl:∀ (L:Array Bool) (a:Act) (w:World),MonoInv ops Φ a0 w0 L a w→(∀ j,depB ops last j=true→L.getD j false=true)→∀ n i,last ≤ i+n→i < last→L.getD i false=true:=by
  intro L a w hI hdl n
  induction n with
  | zero => intro i h hi;omega
  | succ n ih =>
   intro i h hi
   unfold coverB at hcov
   have h1:=List.all_eq_true.1 hcov i (List.mem_range.2 hi)
   obtain ⟨k,hk,hd⟩:=List.any_eq_true.1 h1
   have hk':k < last+1:=List.mem_range.1 hk
   by_cases hkl:k=last
   ·subst hkl;exact hdl i hd
   ·have hlt:i < k:=by
     unfold depB at hd
     cases hok':ops[k]? with
     | none => rw [hok'] at hd;cases hd
     | some ok =>
      obtain ⟨_,_,h3⟩:=monoOk_spec hok hok'
      exact h3 i (by unfold depB;exact hd)
    exact hI.closed k (ih k (by omega) (by omega)) i hd
 have hwait:∀ k,last < k→k < ops.size→∃ j,last ≤ j∧depB ops k j=true:=by
  intro k h1 h2
  unfold lateB at hlate
  have:=List.all_eq_true.1 hlate k (List.mem_range.2 h2)
  simp only [Bool.or_eq_true,decide_eq_true_eq] at this
  rcases this with h | h
  ·omega
  ·obtain ⟨j,hj,hd⟩:=List.any_eq_true.1 h
   simp only [Bool.and_eq_true,decide_eq_true_eq] at hd
   exact ⟨j,hd.1,hd.2⟩
 intro fuel
 induction fuel with
 | zero =>
  intro L a w hI hun hc
  have hlast:=hun last (Nat.le_refl _)
  have:0 < (List.range ops.size).countP (fun i => !L.getD i false):=List.countP_pos_iff.2 ⟨last,List.mem_range.2 (by omega),by simp only [hlast];rfl⟩
  omega
 | succ fuel ih =>
  intro L a w hI hun hc
  have hlast:=hun last (Nat.le_refl _)
  refine ⟨fun h => (hrdy L a w hI hlast h).elim,fun i hi => ?_⟩
  obtain ⟨h0,o,ho,hdeps⟩:=mem_ready.1 hi
  have hlt:i < ops.size:=(Array.getElem?_eq_some_iff.1 ho).1
  have hls:i < L.size:=by rw [hI.size];exact hlt
  have h0':L.getD i false=false:=by
   rw [Array.getD_eq_getD_getElem?,Array.getElem?_eq_getElem hls] at h0 ⊢
   exact h0
  obtain ⟨hd,hl,hlex⟩:=monoOk_spec hok ho
  have hdl:∀ j,depB ops i j=true→L.getD j false=true:=by
   intro j hj
   unfold depB at hj
   rw [ho] at hj
   obtain ⟨e,he,hb⟩:=Array.any_eq_true'.1 hj
   simp only [Bool.and_eq_true,beq_iff_eq] at hb
   rw [← hb.2];exact hdeps e he hb.1
  by_cases hil:i=last
  ·subst hil
   have hall:=hcl L a w hI hdl i
   refine wpOp_mono ?_ (hend a w hI.ext (fun j o' d hj ho' hd' => hI.vals j o' d ho' hd' (hall j (by omega) hj)) (fun t ht => hI.rest t (fun j hj => hun j (ht j hj))) hI.defers hI.tsize)
   intro a' w' hq
   have hL:L.setIfInBounds i true=doneTo i ops.size:=by
    apply Array.ext
    ·simp [doneTo,hI.size]
    ·intro k h1 h2
     have hk:k < ops.size:=by simpa [doneTo] using h2
     simp only [doneTo,List.getElem_toArray,List.getElem_map,List.getElem_range]
     have hks:k < L.size:=by rw [hI.size];exact hk
     rw [Array.getElem_setIfInBounds (by exact hks)]
     by_cases hki:i=k
     ·simp [hki]
     ·rw [if_neg hki]
      have hg:L.getD k false=L[k]:=by rw [Array.getD_eq_getD_getElem?,Array.getElem?_eq_getElem hks];rfl
      by_cases hlt:k < i
      ·rw [← hg,hall k (by omega) hlt]
       simp;omega
      ·rw [← hg,hun k (by omega)]
       simp;omega
   rw [hL]
   refine hq fuel ?_
   have hcount:(List.range ops.size).countP (fun k => !L.getD k false)=ops.size - i:=by
    have:(List.range ops.size).countP (fun k => !L.getD k false)=(List.range ops.size).countP (fun k => decide (i ≤ k)):=by
     apply List.countP_congr
     intro k hk
     have hk':=List.mem_range.1 hk
     by_cases hlt:k < i
     ·rw [hall k (by omega) hlt];simp;omega
     ·rw [hun k (by omega)];simp;omega
    rw [this]
    exact countP_range_le i ops.size (by omega)
   omega
  have hil2:i < last:=by
   rcases Nat.lt_or_ge last i with h | h
   ·obtain ⟨j,hj,hd'⟩:=hwait i h hlt
    have:=hdl j hd'
    rw [hun j hj] at this
    cases this
   ·omega
  have hlt':i < last:=by omega
  have hgood:GoodAct ops Φ a0 i o a w:=by
   intro t ht
   cases hw:wr ops t with
   | none => exact hI.rest t (fun j hj => by rw [hw] at hj;cases hj)
   | some j =>
    simp only []
    have hj:=List.find?_some hw
    simp only [beq_iff_eq] at hj
    split
    ·rename_i hdep
     cases hoj:ops[j]? with
     | none => rw [hoj] at hj;cases hj
     | some oj =>
      rw [hoj] at hj
      exact hI.vals j oj t hoj hj (hdl j hdep)
    ·rename_i hdep
     refine hI.rest t (fun j' hj' => ?_)
     rw [hw] at hj'
     cases hj'
     rcases hl t ht j hw with h | h
     ·exact absurd h hdep
     ·cases hLj:L.getD j false
      ·rfl
      ·have:=hI.closed j hLj i h
       rw [h0'] at this;cases this
  have hstep:∀ v w',Below w.heap.size w w' → Φ i v w' → MonoInv ops Φ a0 w0 (L.setIfInBounds i true) (a.put o.dst v) w':=by
   intro v w' hb hv
   have hget:∀ k,(L.setIfInBounds i true).getD k false=true ↔ (k=i ∨ L.getD k false=true):=by
    intro k
    by_cases hk:k=i
    ·subst hk
     simp [Array.getD_eq_getD_getElem?,hls]
    ·rw [getD_set_ne false (fun e => hk e.symm)]
     simp [hk]
   have hput:∀ t,(a.put o.dst v).tmps.getD t undef=if o.dst=some t then v else a.tmps.getD t undef:=by
    intro t
    cases hdst:o.dst with
    | none => simp [Act.put]
    | some d =>
     simp only [Act.put,Option.some.injEq]
     have hdsz:d < a.tmps.size:=by rw [hI.tsize];exact (hd d hdst).1
     by_cases h:d=t
     ·subst h
      simp [Array.getD_eq_getD_getElem?,hdsz]
     ·simp [Array.getD_eq_getD_getElem?,h]
   refine ⟨by simp [hI.size],hI.ext.trans (hb.mono hI.ext.size),?_,?_,?_,?_,?_⟩
   ·intro k hk j hj
    rw [hget] at hk ⊢
    rcases hk with rfl | hk
    ·exact .inr (hdl j hj)
    ·exact .inr (hI.closed k hk j hj)
   ·intro k ok d hok' hdk hk
    rw [hget] at hk
    rw [hput]
    rcases hk with rfl | hk
    ·rw [ho] at hok';cases hok'
     rw [if_pos hdk];exact hv
    ·have hne:o.dst ≠ some d:=by
      intro e
      have h1:=(hd d e).2
      have h2:=((monoOk_spec hok hok').1 d hdk).2
      rw [h1] at h2
      cases h2
      rw [h0'] at hk;cases hk
     rw [if_neg hne]
     exact hst k _ _ _ (hI.vals k ok d hok' hdk hk) hb
   ·intro t ht
    rw [hput]
    have hne:o.dst ≠ some t:=by
     intro e
     have:=ht i (hd t e).2
     have h2:=(hget i).2 (.inl rfl)
     rw [this] at h2;cases h2
    rw [if_neg hne]
    refine hI.rest t (fun j hj => ?_)
    cases hLj:L.getD j false
    ·rfl
    ·have:=ht j hj
     rw [(hget j).2 (.inr hLj)] at this;cases this
   ·cases o.dst <;> exact hI.defers
   ·rw [← hI.tsize];cases o.dst <;> simp [Act.put]
  have hcount:(List.range ops.size).countP (fun k => !(L.setIfInBounds i true).getD k false) ≤ fuel:=by
   have:=countP_lt (l:=List.range ops.size) (p:=fun k => !L.getD k false) (q:=fun k => !(L.setIfInBounds i true).getD k false)
    (fun k _ hk => by
     by_cases hki:k=i
     ·subst hki;simp [h0']
     ·rw [getD_set_ne false (fun e => hki e.symm)] at hk;exact hk)
    ⟨i,List.mem_range.2 hlt,by simp [h0'],by simp [Array.getD_eq_getD_getElem?,hls]⟩
   omega
  have hun':∀ k,last ≤ k→(L.setIfInBounds i true).getD k false=false:=fun k hk => by rw [getD_set_ne false (by omega)];exact hun k hk
  have hg:=hop i o hlt' ho a w hI.ext hgood
  unfold wpOp
  rw [ho]
  simp only []
  split at hg
  ·rename_i hw
   rw [if_pos hw]
   refine .inl (Oper.wp_mono ?_ hg)
   rintro a' w' ⟨v,rfl,hb,hv⟩
   exact ih _ _ _ (hstep v w' hb hv) hun' hcount
  ·rename_i hw
   rw [if_neg hw]
   exact ih _ _ _ (hstep undef w (Below.refl _ _) hg) hun' hcount
theorem wp_region_cut {id:Nat} {a0:Act} {w0:World} (hm:P.follows .mixedOrders=true) (L:List (Value→World→Prop)) (plan:List (List (Tmp × Option Nat))) (D:List (Option Tmp)) (M:List Bool) (last:Nat) (ol:Oper) (hol:ops[last]? = some ol) 
  (hn:last < ops.size) (hcov:coverB ops last=true) (hlate:lateB ops last=true)
  (hok:monoOk ops a0.tmps.size=true) (hplan:planOf ops=plan) (hD:dstsOf ops=D) (hM:maskOf ops a0.tmps.size=M) (hst:AllStable L) (hop:MonoOps P ops Q L a0 w0 (ops.toList.take last) plan L)
  (hwant:∀ f w,AllWords f w (D.take last) L→Region.wanted ol (yielded ops (mergeT M a0.tmps.toList 0 f).toArray)=true)
  (hend:∀ f w,Below w0.heap.size w0 w→AllWords f w (D.take last) L→ol.wp P { tmps:=(mergeT M a0.tmps.toList 0 f).toArray,defers:=a0.defers } w (fun a' w' => ∀ fuel,ops.size ≤ fuel+last+1→wpAny P .any ops Q fuel (doneTo last ops.size) a' w') Q) :
  (Code.region id ops true).wp P Q a0 w0:=by
 refine wp_region_any hm (mono_any_cut (w0:=w0) (fun i => L.getD i (fun _ _ => True)) hok last hn hcov hlate (fun i => allStable_get hst i) ?_ ?_ ops.size _ a0 _ ⟨by simp,(Below.refl _ _).drew,?_,?_,fun _ _ => rfl,rfl,rfl⟩ ?_ ?_)
 ·intro i o hil ho a w hb hg
  have hlt:i < ops.size:=(Array.getElem?_eq_some_iff.1 ho).1
  have hpl:plan[i]? = some ((o.looksAt ops).map fun t => (t,match wr ops t with
     | some j => if depB ops i j=true then some j else none
     | none => none)):=by
   rw [← hplan]
   unfold planOf
   rw [List.getElem?_map,List.getElem?_range hlt,Option.map_some,ho]
   rfl
  exact monoOps_get hop i o _ (by rw [List.getElem?_take,if_pos hil];simpa using ho) hpl a w hb (planFacts_of rfl (o:=o) _ hg)
 ·intro a w hb hv hr hd hs
  have hwd:AllWords (fun t => a.tmps.getD t undef) w (D.take last) L:=by
   rw [← hD,dstsOf,← List.map_take]
   exact allWords_of (fun i o d ho hdd => by
    rw [List.getElem?_take] at ho
    split at ho
    ·rename_i hil
     exact hv i o d hil (by simpa using ho) hdd
    ·cases ho)
  have h:=hend (fun t => a.tmps.getD t undef) w hb hwd
  have hw:=hwant (fun t => a.tmps.getD t undef) w hwd
  have e:mergeT M a0.tmps.toList 0 (fun t => a.tmps.getD t undef)=a.tmps.toList:=by
   refine mergeT_eq _ _ _ _ _ (by rw [← hM];simp [maskOf]) (by simpa using hs) ?_ ?_
   ·intro j hj _
    simp [Array.getD_eq_getD_getElem?,List.getD_eq_getElem?_getD]
   ·intro j hj hb
    rw [← hM] at hb
    have hj':j < a0.tmps.size:=by rw [← hs];simpa using hj
    have hw:wr ops j=none:=by
     unfold maskOf at hb
     simp [List.getD_eq_getElem?_getD,List.getElem?_map,List.getElem?_range hj'] at hb
     exact hb
    have:=hr j (fun k hk => by rw [hw] at hk;cases hk)
    simpa [Array.getD_eq_getD_getElem?,List.getD_eq_getElem?_getD] using this
  rw [e,← hd] at h
  unfold wpOp
  rw [hol]
  simp only []
  rw [e] at hw
  rw [if_pos (by simpa using hw)]
  exact .inl h
 ·intro k hk
  simp [Array.getD_eq_getD_getElem?] at hk
  rcases h:(Array.replicate ops.size false)[k]? with _ | b <;> simp [h] at hk
  subst hk
  obtain ⟨h1,h2⟩:=Array.getElem?_eq_some_iff.1 h
  simp at h2
 ·intro i o d ho hd hk
  exfalso
  simp [Array.getD_eq_getD_getElem?] at hk
  rcases h:(Array.replicate ops.size false)[i]? with _ | b <;> simp [h] at hk
  subst hk
  obtain ⟨h1,h2⟩:=Array.getElem?_eq_some_iff.1 h
  simp at h2
 ·intro k _
  rw [Array.getD_eq_getD_getElem?]
  by_cases hk:k < ops.size
  ·simp [hk]
  ·simp [hk]
 ·exact Nat.le_trans List.countP_le_length (by simp)
theorem wpAny_one {L:Array Bool} {i f:Nat} {o:Oper} {a:Act} {w:World} (hr:Region.ready .any ops L = [i]) (ho:ops[i]? = some o) (hw:Region.wanted o (yielded ops a.tmps)=true)
  (h:o.wp P a w (fun a' w' => wpAny P .any ops Q f (L.setIfInBounds i true) a' w') Q):wpAny P .any ops Q (f+1) L a w:=by
 refine ⟨fun h0 => (by rw [hr] at h0;cases h0),fun j hj => ?_⟩
 rw [hr,List.mem_singleton] at hj
 subst hj
 unfold wpOp
 rw [ho]
 simp only []
 rw [if_pos (by simpa using hw)]
 exact .inl h
theorem wpAny_end {L:Array Bool} {f:Nat} {a:Act} {w:World} (hr:Region.ready .any ops L = []) (h:Q .normal a w):wpAny P .any ops Q f L a w:=wpAny_done hr h _
end
end Go.Proofs.YtamafdcnbcoegabGreat
namespace Go.Proofs.YtamafdcnbcoegabGreat
open Go.RowKit
def skSays (a:Mod.Sk) (l:List UInt8):Int × Mod.Sk × List ByteArray :=
 if Wire.reads l=true then (0,skReply a (Wire.kindOf l) (Wire.epochOf l) (Wire.streamOf l).toNat (Wire.seqOf l).toNat (Wire.bodyOf l)) else (1,a,[])
structure FramesOut (B:Nat) (w:World) (lv:Value) (fs:List Value) (Fl:List ByteArray) (U:Nat→Prop):Prop where
 len:fs.length=Fl.length
 row:w.ownsRow B 48 1 lv fs.length fs
 each:∀ (j:Nat) (v:Value),fs[j]? = some v→w.ownsRow B 5 1 v ((Fl.map fun b => b.data.toList).getD j []).length (bv ((Fl.map fun b => b.data.toList).getD j []))
 apart:∀ (i j:Nat) (u v:Value),fs[i]? = some u→fs[j]? = some v→i ≠ j→∀ g,u.ownBlock=some g→v.ownBlock ≠ some g
 clear:∀ k,(lv.ownBlock=some k ∨ Done fs fs.length k)→¬ U k
structure SinkC where
 At:World→Nat→Mod.Sk→(Nat→Prop)→Prop
 lt:∀ {w v a U},At w v a U→∀ k,U k→k < w.heap.size
 far:∀ {w w' v a U E},At w v a U→Far E w w' → (∀ k,U k→¬ E k)→At w' v a U
 deliver:∀ {w v a U} (bs:Value) (l:List UInt8),At w v a U→SkGood a→BytesAt w bs l→Calls Tryz.prog 15 #[ptrTo v,bs] w fun r w' =>
  ∃ lv fs U',r = .returned (.tuple #[lv,.int .i64 (skSays a l).1])∧FramesOut w.heap.size w' lv fs (skSays a l).2.2 U' ∧ At w' v (skSays a l).2.1 U' ∧ Far U w w' ∧ ∀ k,U' k→U k ∨ w.heap.size ≤ k
 epoch:∀ {w v a U},At w v a U→Calls Tryz.prog 27 #[ptrTo v] w fun r w' => r = .returned (.int .i64 a.epoch)∧Below w.heap.size w w'
 log:∀ {w v a U} (i:Int),At w v a U→SkGood a→Calls Tryz.prog 17 #[ptrTo v,.int .i64 i] w fun r w' =>
  ∃ lv,r = .returned lv∧w'.ownsRow w.heap.size 9 1 lv (if 0 ≤ i∧i < 3 then a.logs i.toNat else []).length (strs (if 0 ≤ i∧i < 3 then a.logs i.toNat else []))∧Below w.heap.size w w'
 opened:∀ {w} (bs:Value),BytesAt w bs (List.replicate 7808 0)→Calls Tryz.prog 25 #[bs] w fun r w' =>
  ∃ v U,r = .returned (.tuple #[ptrTo v,.int .i64 0])∧At w' v { epoch:=0,logs:=fun _ => [],held:=[] } U∧Below w.heap.size w w' ∧ ∀ k,U k→w.heap.size ≤ k
end Go.Proofs.YtamafdcnbcoegabGreat
namespace Go.Proofs.YtamafdcnbcoegabGreat
open Go.RowKit
set_option maxHeartbeats 400000 in
theorem firstHeld_any (q:Nat) (hq:q ≤ 1000000000000) (w:World):Calls Tryz.prog 168 #[.int .i64 q] w fun e w' => e = .returned (.int .i64 ((q:Int)+2))∧w' = w:=by
 have hw:IntKind.i64.wrap ((q:Int)+2)=(q:Int)+2:=by rw [IntKind.wrap_i64];omega
 go_enter Tryz.func168,Tryz.ntmps168
 go_wp2
 go_ret
 exact ⟨rfl,rfl⟩
theorem infoI:(Tryz.prog.info? 3).map (fun i => (i.zero,i.size,i.bytes))=some (some (.int .i64 0),1,8):=by kernel_rfl
set_option maxRecDepth 100000 in
set_option maxHeartbeats 2000000 in
theorem frameHeld_any (q:Nat) (hq:q ≤ 1000000000) (b:ByteArray) (hp:0 < b.size) (w:World) :
  Calls Tryz.prog 120 #[.int .i64 q,.string b] w fun e w' => ∃ v,e = .returned v∧w'.ownsRow w.heap.size 3 1 v (Mod.bitsOf q b[0].toNat 3).length (numCells (Mod.bitsOf q b[0].toNat 3))∧Below w.heap.size w w':=by
 obtain ⟨i0,hi,hz0,hz1,hz2⟩:=info_parts2 infoI
 go_enter Tryz.func120,Tryz.ntmps120
 go_wp2
 go_loopw [5,6,7] (fun v5 _ i wr => ∃ j:Nat,j ≤ 3∧i = .int .i64 j∧wr.ownsRow w.heap.size 3 1 v5 (Mod.bitsOf q b[0].toNat j).length (numCells (Mod.bitsOf q b[0].toNat j))∧Below w.heap.size w wr) (fun _ _ i _ => 3 - (intOf i).toNat)
 case atStart => exact ⟨0,by omega,rfl,World.ownsRow_nil _ _ _ _,Below.refl _ _⟩
 case round =>
  obtain ⟨j,hj,rfl,ho,hb⟩:=hrel
  have HO:=hide ho
  have HB:=hide hb
  clear ho hb
  rcases (show j=0 ∨ j=1 ∨ j=2 ∨ j=3 by omega) with rfl | rfl | rfl | rfl
  ·have hlen:=bitsOf_len q b[0].toNat 0
   have hbit:(bits BinOp.and IntKind.u8 (((b[0].toNat:Nat):Int)) 1 == 1)=decide (b[0].toNat % 2=1):=bit0 ⟨b[0].toNat,b[0].toNat_lt⟩
   have hw:IntKind.i64.wrap ((q:Int)+2+0)=(q:Int)+2+0:=by rw [IntKind.wrap_i64];omega
   have hq2:=fun y => firstHeld_any q (by omega) y
   by_cases hb1:b[0].toNat % 2=1
   ·have HX:=hide (show Mod.bitsOf q b[0].toNat (0+1)=Mod.bitsOf q b[0].toNat 0 ++ [q+2+0] by simp [Mod.bitsOf,hb1])
    simp only [hb1,decide_true] at hbit
    generalize Mod.bitsOf q b[0].toNat 0=bl at hlen HX HO
    have hsz:=(unhide HB).size
    go_upto_region 7 with (first | (go_at_call 168;refine (hq2 _).mono ?_;rintro e y ⟨rfl,rfl⟩) | (at_builtin;refine wpList_append_own _ rfl (.tmp 16) (.tmp 21) 101 rfl w.heap.size 3 i0 (.int .i64 0) 1 8 Tryz.underlying101 hi hz0 hz1 hz2 rfl (by decide) u5 bl.length (numCells bl) rfl ((unhide HO).alloc _) ⟨y.heap.size,0,none⟩ 1 1 [.int .i64 ((q:Int)+2)] rfl rfl cells_new (by intro u hu;simp at hu;subst hu;rfl) (by unfold maxLen;omega) (by omega) (by simp;omega) ?_;intro v' w1 hown' hgrow _;have hb1':Below w.heap.size w w1:=(unhide HB).trans (((Below.refl _ y).alloc hsz _).trans (below_grown_new (B:=w.heap.size) hgrow (by simp;omega) (fun g hg => (World.ownsRow.lt (unhide HO) g hg).1)));replace hown':=hide hown';replace hb1':=hide hb1';clear hgrow))
    go_wp2
    go_roundw
    case rel => exact ⟨0+1,by omega,by go_num,by have:=unhide hown';rw [unhide HX,List.length_append,numCells_snoc];simpa using this,unhide hb1'⟩
    case measure => simp [intOf]
   ·have HX:=hide (show Mod.bitsOf q b[0].toNat (0+1)=Mod.bitsOf q b[0].toNat 0 by simp [Mod.bitsOf,hb1])
    simp only [hb1,decide_false] at hbit
    go_wp2
    exact ⟨⟨0+1,by omega,by go_num,by rw [unhide HX];exact unhide HO,unhide HB⟩,by simp [intOf]⟩
  ·have hlen:=bitsOf_len q b[0].toNat 1
   have hbit:(bits BinOp.and IntKind.u8 (((b[0].toNat:Nat):Int) / 2) 1 == 1)=decide (b[0].toNat / 2 % 2=1):=bit1 ⟨b[0].toNat,b[0].toNat_lt⟩
   have hw:IntKind.i64.wrap ((q:Int)+2+1)=(q:Int)+2+1:=by rw [IntKind.wrap_i64];omega
   have hq2:=fun y => firstHeld_any q (by omega) y
   by_cases hb1:b[0].toNat / 2 % 2=1
   ·have HX:=hide (show Mod.bitsOf q b[0].toNat (1+1)=Mod.bitsOf q b[0].toNat 1 ++ [q+2+1] by simp [Mod.bitsOf,hb1])
    simp only [hb1,decide_true] at hbit
    generalize Mod.bitsOf q b[0].toNat 1=bl at hlen HX HO
    have hsz:=(unhide HB).size
    go_upto_region 7 with (first | (go_at_call 168;refine (hq2 _).mono ?_;rintro e y ⟨rfl,rfl⟩) | (at_builtin;refine wpList_append_own _ rfl (.tmp 16) (.tmp 21) 101 rfl w.heap.size 3 i0 (.int .i64 0) 1 8 Tryz.underlying101 hi hz0 hz1 hz2 rfl (by decide) u5 bl.length (numCells bl) rfl ((unhide HO).alloc _) ⟨y.heap.size,0,none⟩ 1 1 [.int .i64 ((q:Int)+2+1)] rfl rfl cells_new (by intro u hu;simp at hu;subst hu;rfl) (by unfold maxLen;omega) (by omega) (by simp;omega) ?_;intro v' w1 hown' hgrow _;have hb1':Below w.heap.size w w1:=(unhide HB).trans (((Below.refl _ y).alloc hsz _).trans (below_grown_new (B:=w.heap.size) hgrow (by simp;omega) (fun g hg => (World.ownsRow.lt (unhide HO) g hg).1)));replace hown':=hide hown';replace hb1':=hide hb1';clear hgrow))
    go_wp2
    go_roundw
    case rel => exact ⟨1+1,by omega,by go_num,by have:=unhide hown';rw [unhide HX,List.length_append,numCells_snoc];simpa using this,unhide hb1'⟩
    case measure => simp [intOf]
   ·have HX:=hide (show Mod.bitsOf q b[0].toNat (1+1)=Mod.bitsOf q b[0].toNat 1 by simp [Mod.bitsOf,hb1])
    simp only [hb1,decide_false] at hbit
    go_wp2
    exact ⟨⟨1+1,by omega,by go_num,by rw [unhide HX];exact unhide HO,unhide HB⟩,by simp [intOf]⟩
  ·have hlen:=bitsOf_len q b[0].toNat 2
   have hbit:(bits BinOp.and IntKind.u8 (((b[0].toNat:Nat):Int) / 4) 1 == 1)=decide (b[0].toNat / 4 % 2=1):=bit2 ⟨b[0].toNat,b[0].toNat_lt⟩
   have hw:IntKind.i64.wrap ((q:Int)+2+2)=(q:Int)+2+2:=by rw [IntKind.wrap_i64];omega
   have hq2:=fun y => firstHeld_any q (by omega) y
   by_cases hb1:b[0].toNat / 4 % 2=1
   ·have HX:=hide (show Mod.bitsOf q b[0].toNat (2+1)=Mod.bitsOf q b[0].toNat 2 ++ [q+2+2] by simp [Mod.bitsOf,hb1])
    simp only [hb1,decide_true] at hbit
    generalize Mod.bitsOf q b[0].toNat 2=bl at hlen HX HO
    have hsz:=(unhide HB).size
    go_upto_region 7 with (first | (go_at_call 168;refine (hq2 _).mono ?_;rintro e y ⟨rfl,rfl⟩) | (at_builtin;refine wpList_append_own _ rfl (.tmp 16) (.tmp 21) 101 rfl w.heap.size 3 i0 (.int .i64 0) 1 8 Tryz.underlying101 hi hz0 hz1 hz2 rfl (by decide) u5 bl.length (numCells bl) rfl ((unhide HO).alloc _) ⟨y.heap.size,0,none⟩ 1 1 [.int .i64 ((q:Int)+2+2)] rfl rfl cells_new (by intro u hu;simp at hu;subst hu;rfl) (by unfold maxLen;omega) (by omega) (by simp;omega) ?_;intro v' w1 hown' hgrow _;have hb1':Below w.heap.size w w1:=(unhide HB).trans (((Below.refl _ y).alloc hsz _).trans (below_grown_new (B:=w.heap.size) hgrow (by simp;omega) (fun g hg => (World.ownsRow.lt (unhide HO) g hg).1)));replace hown':=hide hown';replace hb1':=hide hb1';clear hgrow))
    go_wp2
    go_roundw
    case rel => exact ⟨2+1,by omega,by go_num,by have:=unhide hown';rw [unhide HX,List.length_append,numCells_snoc];simpa using this,unhide hb1'⟩
    case measure => simp [intOf]
   ·have HX:=hide (show Mod.bitsOf q b[0].toNat (2+1)=Mod.bitsOf q b[0].toNat 2 by simp [Mod.bitsOf,hb1])
    simp only [hb1,decide_false] at hbit
    go_wp2
    exact ⟨⟨2+1,by omega,by go_num,by rw [unhide HX];exact unhide HO,unhide HB⟩,by simp [intOf]⟩
  ·go_wp2
   go_ret
   exact ⟨_,rfl,unhide HO,unhide HB⟩
end Go.Proofs.YtamafdcnbcoegabGreat
namespace Go.Proofs.YtamafdcnbcoegabGreat
open Go.RowKit
def recS (b:ByteArray):Value:=.agg #[.string b]
def zeroS:Value:=.agg #[.string ⟨#[]⟩]
theorem zero_S (w:World):(zeroValue 224).run Tryz.prog w = .ok zeroS w:=Tryz.zeroValue224 w
def AreS (l:List (Nat × Value)):Prop:=∀ x ∈ l,∃ b,x.2=recS b
theorem areS_look {l:List (Nat × Value)} (h:AreS l) (k:Int):(∃ b,look l k=some (recS b)) ∨ look l k=none:=by
 cases hv:look l k with
 | none => exact .inr rfl
 | some v =>
  obtain ⟨x,hx,_,rfl⟩:=look_mem hv
  obtain ⟨b,e⟩:=h x hx
  exact .inl ⟨b,by rw [e]⟩
set_option maxHeartbeats 400000 in
theorem hasS_any {w:World} {p o:Nat} {arr:Array Value} {t:TypeId} {nv mv:Value} {l:List (Nat × Value)} (hb:w.heap[p]? = some (.cells arr t (0,0))) (h1:arr[o+1]? = some mv) (S:ShelfIs w nv mv l) (A:AreS l) (n:Int) :
  Calls Tryz.prog 137 #[.pointer (some ⟨p,o,none⟩),.int .i64 n] w fun e w' => e = .returned (.bool (look l n).isSome)∧Below w.heap.size w w':=by
 have c1:w.cell? ⟨p,o+1,none⟩=some mv:=(blk_cell hb).trans h1
 have hrun:=(run_lookup_i (P:=Tryz.prog) (w:=w) (t:=117) Tryz.underlying117 Tryz.underlying3 (zero_S w) S.map n).1
 clear S hb h1
 rcases areS_look A n with ⟨b,h⟩ | h
 all_goals
  rw [h] at hrun ⊢
  simp only [Option.getD_some,Option.getD_none,Option.isSome_some,Option.isSome_none,recS,zeroS] at hrun ⊢
  clear h A
  go_enter Tryz.func137,Tryz.ntmps137
  go_wp2
  go_ret
  refine ⟨rfl,?_⟩
  exact (Below.refl _ _).alloc (Nat.le_refl _) _
set_option maxRecDepth 100000 in
set_option maxHeartbeats 1000000 in
theorem putS_any {w:World} {p o:Nat} {t:TypeId} {arr:Array Value} {nv mv:Value} {l:List (Nat × Value)} (S:ShAt w p o t arr nv mv l) (hl:l.length < 1000) (n:Nat) (b:ByteArray) :
  Calls Tryz.prog 180 #[.pointer (some ⟨p,o,none⟩),.int .i64 n,recS b] w fun e w' => e = .returned (.tuple #[])∧ShStep w w' p o t arr nv mv (putL l n (recS b)):=by
 obtain ⟨hbW,h0,h1,S,ht⟩:=S
 obtain ⟨mv0,hmv0⟩:∃ m,m=mv:=⟨_,rfl⟩
 rw [← hmv0]
 have hmv0:=hide hmv0
 have c0:w.cell? ⟨p,o,none⟩=some nv:=(blk_cell hbW).trans h0
 have c1:w.cell? ⟨p,o+1,none⟩=some mv:=(blk_cell hbW).trans h1
 unfold recS
 have hp:=lt_of_block hbW
 go_enter Tryz.func180,Tryz.ntmps180
 go_upto_region 1 with fail
 refine wp_world (fun x => x.heap[p]? = some (.cells arr t (0,0))∧x.heap[w.heap.size]? = some (.cells #[.string b] 224 (0,0))∧ShelfIs x nv mv l∧Far (fun _ => False) w x∧w.heap.size < x.heap.size) ?_ ?_
 ·have hf:Far (fun _ => False) w (w.alloc (.cells #[.string b] 224)):=far_below ((Below.refl _ _).alloc (Nat.le_refl _) _)
  exact ⟨hf.blk hbW id,heap_alloc_new w _,S.far hf (fun _ _ h => h),hf,by simp⟩
 clear c0 c1 S
 rintro x ⟨hb,hbox,S,hf,hz⟩
 have c0:x.cell? ⟨p,o,none⟩=some nv:=(blk_cell hb).trans h0
 have c1:x.cell? ⟨p,o+1,none⟩=some mv:=(blk_cell hb).trans h1
 have hfr:x.frozen? ⟨p,o+1,none⟩=false:=by simp [World.frozen?,hb]
 have hmm:=@run_makeMap Tryz.prog
 have eqN:∀ y:World,(binOp .eql 117 (.map none) (.map none)).run Tryz.prog y = .ok (.bool true) y:=fun y => by kernel_rfl
 have eqS:∀ (y:World) (m:Nat),(binOp .eql 117 (.map (some m)) (.map none)).run Tryz.prog y = .ok (.bool false) y:=fun y m => by kernel_rfl
 have pM:(x.alloc (.map #[] 0)).heap[p]? = some (.cells arr t (0,0)):=(Below.heap_alloc x _ p (lt_of_block hb)).trans hb
 have cM:(x.alloc (.map #[] 0)).cell? ⟨p,o+1,none⟩=some mv:=(blk_cell pM).trans h1
 have fM:(x.alloc (.map #[] 0)).frozen? ⟨p,o+1,none⟩=false:=by simp [World.frozen?,pM]
 rcases S.map with ⟨rfl,hm⟩ | ⟨mb,rfl,hm⟩
 all_goals
  go_upto_region 3 with fail
  refine wp_world (fun y => ∃ mb,y.heap[p]? = some (.cells (arr.setIfInBounds (o+1) (.map (some mb))) t (0,0))∧y.heap[w.heap.size]? = some (.cells #[.string b] 224 (0,0))∧NumsAt y nv (l.map (·.1))∧MapAt y mb (look l) ∧
   Far (fun k => k=p) w y∧w.heap.size < y.heap.size∧(mapBlock mv0=some mb ∨ w.heap.size ≤ mb)) ?_ ?_
 ·refine ⟨x.heap.size,blk_set pM,(blk_set_ne (by omega)).trans ((Below.heap_alloc x _ _ hz).trans hbox),?_,?_,?_,?_,.inr (Nat.le_of_lt hz)⟩
  ·exact S.nums.keep (fun g hg => (blk_set_ne (fun e => S.ne hb ht (.inl (by rw [← e];exact hg)))).trans (Below.heap_alloc x _ g (World.ownsRow.lt S.nums g hg).2))
  ·rw [hm]
   exact (mapAt_new x).keep (blk_set_ne (by have:=lt_of_block hb;omega))
  ·exact ((hf.mono (fun _ _ h => h.elim)).trans (far_below ((Below.refl _ x).alloc (Nat.le_refl _) _)) (fun _ _ h => h)).trans (far_set _ p (o+1) _) (fun _ _ h => h)
  ·simp;omega
 rotate_left
 ·refine ⟨mb,by rw [set_same h1];exact hb,hbox,S.nums,hm,hf.mono (fun _ _ h => h.elim),hz,.inl (by rw [unhide hmv0];rfl)⟩
 all_goals
  have hs:=hide S.sorted
  clear c0 c1 pM cM fM hfr hbox S hm hb hz hmm eqN eqS hf hp
  rintro y ⟨mb',hb,hbox,N,M,hfY,hz,hloc⟩
  have h0s:o < arr.size:=(Array.getElem?_eq_some_iff.1 h0).1
  have h1s:o+1 < arr.size:=(Array.getElem?_eq_some_iff.1 h1).1
  have a0:(arr.setIfInBounds (o+1) (.map (some mb')))[o]? = some nv:=by rw [Array.getElem?_setIfInBounds_ne (by omega)];exact h0
  have a1:(arr.setIfInBounds (o+1) (.map (some mb')))[o+1]? = some (.map (some mb')):=by simp [h1s]
  have c0:y.cell? ⟨p,o,none⟩=some nv:=(blk_cell hb).trans a0
  have hk:=keys_putL (v:=recS b) (n:=n) (unhide hs)
  have hsr:=search_any N (unhide hs) (by simp;omega) n
  have hcl:(l.map (·.1)).countP (· < n) ≤ (l.map (·.1)).length:=List.countP_le_length
  have hnl:(l.map (·.1)).length < 1000:=by simpa using hl
  generalize (l.map (·.1)).countP (· < n)=k at hk hsr hcl
  generalize (l.map (·.1)).contains n=c at hk hsr
  generalize l.map (·.1)=ns at hk hsr hcl N hnl
  replace hk:=hide hk
  replace hsr:=hide hsr
  cases c
  ·go_upto_region 4 with (go_at_call 125;refine (unhide hsr).mono ?_;rintro e y1 ⟨rfl,q,rfl⟩)
   go_upto_region 6 with fail
   refine (insert_any (w:=(y.drewN q).alloc (.cells #[.int .i64 n] 3)) (ns:=ns) (N.keep (fun g hg => Below.heap_alloc (y.drewN q) _ g (World.ownsRow.lt N g hg).2)) (by omega) k n y.heap.size hcl (heap_alloc_new (y.drewN q) _) (fun e => by have:=(World.ownsRow.lt N _ e).2;omega)).mono ?_
   rintro e z ⟨nv',rfl,hN',hF',hL'⟩
   have hbz:=hF'.blk ((Below.heap_alloc (y.drewN q) _ p (lt_of_block hb)).trans hb) (fun e => (RowO.of_own N).ne hb (fun e => ht e.symm) e)
   have hxz:=hF'.blk ((Below.heap_alloc (y.drewN q) _ _ hz).trans hbox) (fun e => (RowO.of_own N).ne hbox (by decide) e)
   have cz:=(blk_cell hbz).trans a0
   have fz:z.frozen? ⟨p,o,none⟩=false:=by simp [World.frozen?,hbz]
   obtain ⟨ns',hns'⟩:∃ x,x=ns.take k ++ n :: ns.drop k:=⟨_,rfl⟩
   rw [← hns'] at hN'
   obtain ⟨g',cap',rfl⟩:=own_shape hN' (by rw [hns'];simp only [List.length_append,List.length_cons];omega)
   replace hns':=hide hns'
   go_upto_region 6 with fail
   refine wp_world (fun z => ∃ nv',z.heap[p]? = some (.cells ((arr.setIfInBounds o nv').setIfInBounds (o+1) (.map (some mb'))) t (0,0))∧z.heap[w.heap.size]? = some (.cells #[.string b] 224 (0,0))∧NumsAt z nv' ((putL l n (recS b)).map (·.1))∧MapAt z mb' (look l) ∧
    Far (fun k => k=p ∨ nv.ownBlock=some k) w z∧Loc w nv nv') ?_ ?_
   ·have hne:nv.ownBlock ≠ some mb':=N.notMap M
    have hpn:∀ g,(Value.slice (some ⟨g',0,none⟩) ns'.length cap').ownBlock=some g→g ≠ p:=fun g hg e => (RowO.of_own hN').ne hbz (fun e => ht e.symm) (by rw [hg,e])
    have hk':=unhide hk
    simp only [Bool.false_eq_true,if_false] at hk'
    have hfal:Far (fun _ => False) y ((y.drewN q).alloc (.cells #[.int .i64 n] 3)):=(far_drewN (fun _ => False) y q).trans (far_below ((Below.refl _ _).alloc (Nat.le_refl _) _)) (fun _ _ h => h)
    have hfz:Far (fun b => b=p ∨ nv.ownBlock=some b) w z:=(hfY.mono (fun _ _ h => .inl h)).trans ((hfal.mono (fun _ _ h => h.elim)).trans hF' (fun _ _ h => h)) (fun _ _ h => .inr h)
    refine ⟨_,?_,(blk_set_ne (by have:=lt_of_block hbW;omega)).trans hxz,?_,?_,hfz.trans (far_set z p o _) (fun _ _ h => .inl h),loc_less hL' (by simp;omega)⟩
    ·rw [set_comm _ _ (show o ≠ o+1 by omega)]
     exact blk_set hbz
    ·rw [hk',← unhide hns']
     exact hN'.keep (fun g hg => blk_set_ne (hpn g hg))
    ·exact M.keep ((blk_set_ne (fun e => M.not_cells (by rw [e];exact hb))).trans ((hF'.rest _ (by have:=M.lt;simp;omega) hne).trans (hfal.rest _ M.lt id)))
   ·skip
    rintro z ⟨nv',hb,hbox,N',M,hf,hl'⟩
    obtain ⟨ob,hU,hM⟩:=run_update_i (P:=Tryz.prog) (w:=z) (t:=117) Tryz.underlying117 Tryz.underlying3 M n (recS b)
    have hU':=hU z.drew rfl
    unfold recS at hU'
    have c1:z.cell? ⟨p,o+1,none⟩=some (.map (some mb')):=(blk_cell hb).trans (by simp [h1s])
    have b0:=blk_cell (i:=0) hbox
    simp at b0
    go_region
    refine bodyPost_end (results_none rfl _ _ _) rfl ⟨rfl,?_⟩
    exact put_end (v:=recS b) (W:={ z.drew with heap:=z.drew.heap.setIfInBounds mb' ob }) h0s h1s hb ht N' M hf hl' hloc hM ((far_drewN _ z 1).trans (far_block mb' ob) (fun _ _ h => h)) (unhide hs) hl
  ·go_upto_region 4 with (go_at_call 125;refine (unhide hsr).mono ?_;rintro e y1 ⟨rfl,q,rfl⟩)
   go_upto_region 6 with fail
   refine wp_world (fun z => ∃ nv',z.heap[p]? = some (.cells ((arr.setIfInBounds o nv').setIfInBounds (o+1) (.map (some mb'))) t (0,0))∧z.heap[w.heap.size]? = some (.cells #[.string b] 224 (0,0))∧NumsAt z nv' ((putL l n (recS b)).map (·.1))∧MapAt z mb' (look l) ∧
    Far (fun k => k=p ∨ nv.ownBlock=some k) w z∧Loc w nv nv') ?_ ?_
   ·have hk':=unhide hk
    simp only [if_true] at hk'
    refine ⟨nv,?_,hbox,by rw [hk'];exact N,M,(hfY.mono (fun _ _ h => .inl h)).trans (far_drewN _ y q) (fun _ _ h => h),.inr (.inl rfl)⟩
    rw [set_same h0]
    exact hb
   ·skip
    rintro z ⟨nv',hb,hbox,N',M,hf,hl'⟩
    obtain ⟨ob,hU,hM⟩:=run_update_i (P:=Tryz.prog) (w:=z) (t:=117) Tryz.underlying117 Tryz.underlying3 M n (recS b)
    have hU':=hU z.drew rfl
    unfold recS at hU'
    have c1:z.cell? ⟨p,o+1,none⟩=some (.map (some mb')):=(blk_cell hb).trans (by simp [h1s])
    have b0:=blk_cell (i:=0) hbox
    simp at b0
    go_region
    refine bodyPost_end (results_none rfl _ _ _) rfl ⟨rfl,?_⟩
    exact put_end (v:=recS b) (W:={ z.drew with heap:=z.drew.heap.setIfInBounds mb' ob }) h0s h1s hb ht N' M hf hl' hloc hM ((far_drewN _ z 1).trans (far_block mb' ob) (fun _ _ h => h)) (unhide hs) hl
end Go.Proofs.YtamafdcnbcoegabGreat
namespace Go.Proofs.YtamafdcnbcoegabGreat
open Go.RowKit
set_option maxRecDepth 100000 in
set_option maxHeartbeats 1000000 in
theorem clearS_any {w:World} {p o:Nat} {t:TypeId} {arr:Array Value} {nv mv:Value} {l:List (Nat × Value)} (S:ShAt w p o t arr nv mv l) :
  Calls Tryz.prog 177 #[.pointer (some ⟨p,o,none⟩)] w fun e w' => e = .returned (.tuple #[])∧ShStep w w' p o t arr nv mv []:=by
 obtain ⟨hbW,h0,h1,S,ht⟩:=S
 have h0s:o < arr.size:=(Array.getElem?_eq_some_iff.1 h0).1
 have h1s:o+1 < arr.size:=(Array.getElem?_eq_some_iff.1 h1).1
 obtain ⟨mv0,hmv0⟩:∃ m,m=mv:=⟨_,rfl⟩
 rw [← hmv0]
 replace hmv0:=hide hmv0
 have c1:w.cell? ⟨p,o+1,none⟩=some mv:=(blk_cell hbW).trans h1
 have e0:=S.nums.cases
 have hm:(mv = .map none∧∀ ty,(Builtin.clear_ #[117] ty #[.map none]).run Tryz.prog w = .ok (.tuple #[]) w) ∨
   ∃ b o,mv = .map (some b)∧b ≠ p∧nv.ownBlock ≠ some b∧(∀ ty,(Builtin.clear_ #[117] ty #[.map (some b)]).run Tryz.prog w = .ok (.tuple #[]) { w with heap:=w.heap.setIfInBounds b o })∧MapAt { w with heap:=w.heap.setIfInBounds b o } b (fun _ => none):=by
  rcases S.map with ⟨rfl,hm⟩ | ⟨mb,rfl,hm⟩
  ·exact .inl ⟨rfl,fun ty => run_clear_n Tryz.underlying117⟩
  ·obtain ⟨ob,hU,hM⟩:=run_clear_m (P:=Tryz.prog) (w:=w) (t:=117) Tryz.underlying117 hm
   exact .inr ⟨mb,ob,rfl,fun e => hm.not_cells (by rw [e];exact hbW),S.nums.notMap hm,fun ty => hU ty w rfl,hM⟩
 rcases hm with ⟨rfl,hrun⟩ | ⟨mb,ob,rfl,hmp,hmn,hrun,hM⟩
 all_goals
  go_enter Tryz.func177,Tryz.ntmps177
  go_upto_region 1 with fail
  refine wp_world (fun x => x.heap[p]? = some (.cells arr t (0,0))∧NumsAt x nv (l.map (·.1))∧MapV x mv0 (look [])∧Far (fun k => k=p ∨ ShU nv mv0 k) w x) ?_ ?_
 ·exact ⟨hbW,S.nums,by rw [unhide hmv0];exact .inl ⟨rfl,look_nil⟩,Far.refl _ _⟩
 rotate_left
 ·have hf:=far_block (w:=w) mb ob
  refine ⟨hf.blk hbW (fun e => hmp e.symm),S.nums.keep (fun g hg => hf.rest g (World.ownsRow.lt S.nums g hg).2 (fun e => hmn (by rw [hg,e]))),by rw [unhide hmv0];exact .inr ⟨mb,rfl,by rw [look_nil];exact hM⟩,hf.mono (fun k _ e => .inr (.inr (by rw [unhide hmv0,e];rfl)))⟩
 all_goals
  clear S
  rintro x ⟨hb,N,M,hf⟩
  have c0:x.cell? ⟨p,o,none⟩=some nv:=(blk_cell hb).trans h0
  have f0:x.frozen? ⟨p,o,none⟩=false:=by simp [World.frozen?,hb]
  rcases e0 with ⟨rfl,_⟩ | ⟨g,cap,cur,rfl,hh,hn,hc,hz,htk⟩
  ·go_wp2
   refine bodyPost_end (results_none rfl _ _ _) rfl ⟨rfl,?_⟩
   refine ⟨⟨_,mv0,⟨?_,?_,?_,⟨numsAt_nil _,M.keep (fun b hb' => blk_set_ne (fun e => ?_)),by simp,by simp⟩,ht⟩,.inr (.inl rfl),.inl rfl⟩,hf.trans (far_set x p o _) (fun _ _ h => .inl h)⟩
   ·have:=blk_set (j:=o) (v:=.slice none 0 0) hb
    rw [set_same (i:=o+1)]
    ·exact this
    ·rw [Array.getElem?_setIfInBounds_ne (by omega),h1,unhide hmv0]
   ·rw [Array.getElem?_setIfInBounds_ne (by omega)];simp [h0s]
   ·simp [h1s]
   ·rcases M with ⟨h,_⟩ | ⟨b',h,hM'⟩
    ·rw [h] at hb';cases hb'
    ·rw [h] at hb';cases hb';exact hM'.not_cells (by rw [e];exact hb)
  ·go_wp2
   refine bodyPost_end (results_none rfl _ _ _) rfl ⟨rfl,?_⟩
   rcases N.cases with ⟨h,_⟩ | ⟨g',cap',cur',h,hh',hn',hc',hz',htk'⟩
   ·cases h
   ·injection h with h _ h3
    injection h with h
    injection h with h
    subst h h3
    have hgp:g ≠ p:=fun e => by
     subst e
     rw [hh'] at hb
     injection hb with hb
     injection hb with _ hb _
     exact ht hb.symm
    refine ⟨⟨_,mv0,⟨?_,?_,?_,⟨numsAt_mk (ns:=[]) ((blk_set_ne hgp).trans hh') (Nat.zero_le _) hc hz' rfl,M.keep (fun b hb' => blk_set_ne (fun e => ?_)),by simp,by simp⟩,ht⟩,.inr (.inl rfl),.inl rfl⟩,hf.trans (far_set x p o _) (fun _ _ h => .inl h)⟩
    ·rw [set_same (i:=o+1)]
     ·exact blk_set (j:=o) hb
     ·rw [Array.getElem?_setIfInBounds_ne (by omega),h1,unhide hmv0]
    ·rw [Array.getElem?_setIfInBounds_ne (by omega)];simp [h0s]
    ·simp [h1s]
    ·rcases M with ⟨h,_⟩ | ⟨b',h,hM'⟩
     ·rw [h] at hb';cases hb'
     ·rw [h] at hb';cases hb';exact hM'.not_cells (by rw [e];exact hb)
end Go.Proofs.YtamafdcnbcoegabGreat
namespace Go.Proofs.YtamafdcnbcoegabGreat
open Go.RowKit
def ackTo (l:List (Nat × Value)) (q:Nat):Nat→Nat
 | 0 => 0
 | j+1 => ackTo l q j+if (look l ((q+2+j:Nat):Int)).isSome=true then 2 ^ j else 0
theorem ackTo_lt (l:List (Nat × Value)) (q:Nat):∀ j,ackTo l q j < 2 ^ j
 | 0 => by simp [ackTo]
 | j+1 => by
  have:=ackTo_lt l q j
  unfold ackTo
  split
  ·rw [Nat.pow_succ];omega
  ·rw [Nat.pow_succ];omega
theorem or0:bits BinOp.or IntKind.u8 0 1=1:=by decide +kernel
theorem or1:∀ x:Fin 2,bits BinOp.or IntKind.u8 ((x.val:Nat):Int) 2=((x.val+2:Nat):Int):=by decide +kernel
theorem or2:∀ x:Fin 4,bits BinOp.or IntKind.u8 ((x.val:Nat):Int) 4=((x.val+4:Nat):Int):=by decide +kernel
set_option maxRecDepth 100000 in
set_option maxHeartbeats 2000000 in
theorem ackBody_any {w:World} {p o:Nat} {t:TypeId} {arr:Array Value} {nv mv:Value} {l:List (Nat × Value)} (S:ShAt w p o t arr nv mv l) (A:AreS l) (q:Nat) (hq:q ≤ 1000000000) :
  Calls Tryz.prog 136 #[.int .i64 q,.func (.func 137) #[.pointer (some ⟨p,o,none⟩)] #[]] w fun e w' => e = .returned (.string ⟨#[UInt8.ofNat (ackTo l q 3)]⟩)∧Below w.heap.size w w':=by
 have HS:=hide S
 have hlt:=fun k (hk:ShU nv mv k) => S.sh.lt k hk
 have hp:=lt_of_block S.blk
 go_enter Tryz.func136,Tryz.ntmps136
 go_wp2
 go_loopw [5,6,7] (fun v5 _ i wr => ∃ j:Nat,j ≤ 3∧i = .int .i64 j∧v5 = .int .u8 (ackTo l q j:Nat)∧Below w.heap.size w wr) (fun _ _ i _ => 3 - (intOf i).toNat)
 case atStart => exact ⟨0,by omega,rfl,rfl,Below.refl _ _⟩
 case round =>
  obtain ⟨j,hj,rfl,rfl,hb⟩:=hrel
  have S1:ShAt wr p o t arr nv mv l:=by
   have S0:=unhide HS
   exact ⟨(hb.block p hp).trans S0.blk,S0.c0,S0.c1,S0.sh.keep (fun g hg => hb.block g (hlt g (.inl hg))) (fun g hg => hb.block g (hlt g (.inr hg))),S0.ty⟩
  have hHas:=fun k:Int => hide (hasS_any S1.blk S1.c1 S1.sh A k)
  have HB:=hide hb
  have hz:=hb.size
  clear hb S1
  have hq2:=fun y => firstHeld_any q (by omega) y
  have hlj:=ackTo_lt l q j
  rcases (show j=0 ∨ j=1 ∨ j=2 ∨ j=3 by omega) with rfl | rfl | rfl | rfl
  ·have hw:IntKind.i64.wrap ((q:Int)+2+0)=(q:Int)+2+0:=by rw [IntKind.wrap_i64];omega
   have hH:=hHas ((q:Int)+2)
   have HX:Hid (ackTo l q (0+1)=ackTo l q 0+if (look l ((q:Int)+2)).isSome=true then 2 ^ 0 else 0):=rfl
   generalize hx:ackTo l q 0=x at *
   have ho:=or0
   obtain rfl:x=0:=by omega
   cases hc:(look l ((q:Int)+2)).isSome
   ·rw [hc] at hH HX
    go_upto_region 6 with (first | (go_at_call 168;refine (hq2 _).mono ?_;rintro e y ⟨rfl,rfl⟩) | (go_at_call 137;refine (unhide hH).mono ?_;rintro e z ⟨rfl,hbz⟩;have HB2:=hide ((unhide HB).trans (hbz.mono hz));clear hbz))
    exact ⟨⟨0+1,by omega,by go_num,by rw [unhide HX];simp,unhide HB2⟩,by simp [intOf]⟩
   ·rw [hc] at hH HX
    go_upto_region 6 with (first | (go_at_call 168;refine (hq2 _).mono ?_;rintro e y ⟨rfl,rfl⟩) | (go_at_call 137;refine (unhide hH).mono ?_;rintro e z ⟨rfl,hbz⟩;have HB2:=hide ((unhide HB).trans (hbz.mono hz));clear hbz))
    go_wp2
    exact ⟨⟨0+1,by omega,by go_num,by rw [unhide HX];simp,unhide HB2⟩,by simp [intOf]⟩
  ·have hw:IntKind.i64.wrap ((q:Int)+2+1)=(q:Int)+2+1:=by rw [IntKind.wrap_i64];omega
   have hH:=hHas ((q:Int)+2+1)
   have HX:Hid (ackTo l q (1+1)=ackTo l q 1+if (look l ((q:Int)+2+1)).isSome=true then 2 ^ 1 else 0):=rfl
   generalize hx:ackTo l q 1=x at *
   have ho:=or1 ⟨x,hlj⟩
   replace hx:=hide hx
   cases hc:(look l ((q:Int)+2+1)).isSome
   ·rw [hc] at hH HX
    go_upto_region 6 with (first | (go_at_call 168;refine (hq2 _).mono ?_;rintro e y ⟨rfl,rfl⟩) | (go_at_call 137;refine (unhide hH).mono ?_;rintro e z ⟨rfl,hbz⟩;have HB2:=hide ((unhide HB).trans (hbz.mono hz));clear hbz))
    exact ⟨⟨1+1,by omega,by go_num,by rw [unhide HX];simp,unhide HB2⟩,by simp [intOf]⟩
   ·rw [hc] at hH HX
    go_upto_region 6 with (first | (go_at_call 168;refine (hq2 _).mono ?_;rintro e y ⟨rfl,rfl⟩) | (go_at_call 137;refine (unhide hH).mono ?_;rintro e z ⟨rfl,hbz⟩;have HB2:=hide ((unhide HB).trans (hbz.mono hz));clear hbz))
    go_wp2
    exact ⟨⟨1+1,by omega,by go_num,by rw [unhide HX];simp,unhide HB2⟩,by simp [intOf]⟩
  ·have hw:IntKind.i64.wrap ((q:Int)+2+2)=(q:Int)+2+2:=by rw [IntKind.wrap_i64];omega
   have hH:=hHas ((q:Int)+2+2)
   have HX:Hid (ackTo l q (2+1)=ackTo l q 2+if (look l ((q:Int)+2+2)).isSome=true then 2 ^ 2 else 0):=rfl
   generalize hx:ackTo l q 2=x at *
   have ho:=or2 ⟨x,hlj⟩
   replace hx:=hide hx
   cases hc:(look l ((q:Int)+2+2)).isSome
   ·rw [hc] at hH HX
    go_upto_region 6 with (first | (go_at_call 168;refine (hq2 _).mono ?_;rintro e y ⟨rfl,rfl⟩) | (go_at_call 137;refine (unhide hH).mono ?_;rintro e z ⟨rfl,hbz⟩;have HB2:=hide ((unhide HB).trans (hbz.mono hz));clear hbz))
    exact ⟨⟨2+1,by omega,by go_num,by rw [unhide HX];simp,unhide HB2⟩,by simp [intOf]⟩
   ·rw [hc] at hH HX
    go_upto_region 6 with (first | (go_at_call 168;refine (hq2 _).mono ?_;rintro e y ⟨rfl,rfl⟩) | (go_at_call 137;refine (unhide hH).mono ?_;rintro e z ⟨rfl,hbz⟩;have HB2:=hide ((unhide HB).trans (hbz.mono hz));clear hbz))
    go_wp2
    exact ⟨⟨2+1,by omega,by go_num,by rw [unhide HX];simp,unhide HB2⟩,by simp [intOf]⟩
  ·have hx8:ackTo l q 3 < 8:=hlj
   have hconv:∀ z:World,(convert 48 9 (.slice (some ⟨z.heap.size,0,none⟩) 1 1)).run Tryz.prog (z.alloc (.cells #[.int .u8 (ackTo l q 3:Nat)] 5)) = .ok (.string ⟨#[UInt8.ofNat (ackTo l q 3)]⟩) (z.alloc (.cells #[.int .u8 (ackTo l q 3:Nat)] 5)):=fun z =>
    conv_str (l:=[UInt8.ofNat (ackTo l q 3)]) (b:=z.heap.size) (off:=0) (n:=1) (cap:=1) rfl (fun i hi => by
     obtain rfl:i=0:=by omega
     rw [blk_cell (heap_alloc_new z _)]
     simp
     omega)
   generalize hx3:ackTo l q 3=x at *
   replace hx3:=hide hx3
   go_wp2
   go_ret
   exact ⟨(congrArg (fun x => Ending.returned (Value.string ⟨#[UInt8.ofNat x]⟩)) (unhide hx3)).symm,((unhide HB).alloc hz _)⟩
end Go.Proofs.YtamafdcnbcoegabGreat
namespace Go.Proofs.YtamafdcnbcoegabGreat
open Go.RowKit
set_option maxRecDepth 100000 in
set_option maxHeartbeats 2000000 in
theorem welcomeBody_any (a b c:Nat) (ha:a < 4294967296) (hb:b < 4294967296) (hc:c < 4294967296) (w:World) :
  Calls Tryz.prog 134 #[.agg #[.int .i64 a,.int .i64 b,.int .i64 c]] w fun e w' => e = .returned (.string ⟨(Wire.le4 a ++ Wire.le4 b ++ Wire.le4 c).toArray⟩)∧Below w.heap.size w w':=by
 have e0:∀ y:World,(Instr.index 35 (.agg #[.int .i64 a,.int .i64 b,.int .i64 c]) (.int .i64 0)).run Tryz.prog y = .ok (.int .i64 a) y:=fun y => by kernel_rfl
 have e1:∀ y:World,(Instr.index 35 (.agg #[.int .i64 a,.int .i64 b,.int .i64 c]) (.int .i64 1)).run Tryz.prog y = .ok (.int .i64 b) y:=fun y => by kernel_rfl
 have e2:∀ y:World,(Instr.index 35 (.agg #[.int .i64 a,.int .i64 b,.int .i64 c]) (.int .i64 2)).run Tryz.prog y = .ok (.int .i64 c) y:=fun y => by kernel_rfl
 have hl:∀ n:Int,(Wire.le4 n).length=4:=fun n => Wire.length_le4 n
 go_enter Tryz.func134,Tryz.ntmps134
 go_upto_region 2 with fail
 refine wp_world (fun x => x.cell? ⟨w.heap.size,0,none⟩=some (.int .i64 a)∧x.cell? ⟨w.heap.size,1,none⟩=some (.int .i64 b)∧x.cell? ⟨w.heap.size,2,none⟩=some (.int .i64 c)∧Below w.heap.size w x∧w.heap.size < x.heap.size) ?_ ?_
 ·have:=heap_alloc_new w (.cells #[.int .i64 a,.int .i64 b,.int .i64 c] 35)
  exact ⟨blk_cell this,blk_cell this,blk_cell this,(Below.refl _ _).alloc (Nat.le_refl _) _,by simp⟩
 rintro x ⟨c0,c1,c2,hB,hz⟩
 go_wp2
 go_loopw [3,5,7] (fun v _ i wr => ∃ j:Nat,j ≤ 3∧i = .int .i64 j∧Owns (w.heap.size+1) wr v ((Wire.le4 a ++ Wire.le4 b ++ Wire.le4 c).take (4 * j))∧Below w.heap.size w wr∧w.heap.size < wr.heap.size) (fun _ _ i _ => 3 - (intOf i).toNat)
 case atStart => exact ⟨0,by omega,rfl,owns_nil _ _,hB,hz⟩
 case round =>
  obtain ⟨j,hj,rfl,ho,hb',hz'⟩:=hrel
  have HO:=hide ho
  have HB:=hide hb'
  clear ho hb'
  rcases (show j=0 ∨ j=1 ∨ j=2 ∨ j=3 by omega) with rfl | rfl | rfl | rfl
  ·have HL:=hide (show (Wire.le4 a ++ Wire.le4 b ++ Wire.le4 c).take (4 * (0+1))=(Wire.le4 a ++ Wire.le4 b ++ Wire.le4 c).take (4 * 0) ++ Wire.le4 a by simp [Wire.le4])
   go_upto_region 6 with (go_at_call 103;refine (appendNumber_any (w.heap.size+1) (a:Int) u3 _ wr (by simp only [List.length_take,List.length_append,hl];omega) (by omega) (by omega) (unhide HO)).mono ?_;rintro r z ⟨v',rfl,hown,hg⟩;have hb2:Below (w.heap.size+1) wr z:=below_grown_new hg (by omega) (fun g hg => ((unhide HO).lt g hg).1);have HO2:=hide hown;have HB2:=hide ((unhide HB).trans (hb2.mono (by omega)));have hz2:=Nat.lt_of_lt_of_le hz' hb2.size;clear hown hg hb2)
   go_wp2
   exact ⟨⟨0+1,by omega,by go_num,by rw [unhide HL];exact unhide HO2,unhide HB2,hz2⟩,by simp [intOf]⟩
  ·have HL:=hide (show (Wire.le4 a ++ Wire.le4 b ++ Wire.le4 c).take (4 * (1+1))=(Wire.le4 a ++ Wire.le4 b ++ Wire.le4 c).take (4 * 1) ++ Wire.le4 b by simp [Wire.le4])
   go_upto_region 6 with (go_at_call 103;refine (appendNumber_any (w.heap.size+1) (b:Int) u3 _ wr (by simp only [List.length_take,List.length_append,hl];omega) (by omega) (by omega) (unhide HO)).mono ?_;rintro r z ⟨v',rfl,hown,hg⟩;have hb2:Below (w.heap.size+1) wr z:=below_grown_new hg (by omega) (fun g hg => ((unhide HO).lt g hg).1);have HO2:=hide hown;have HB2:=hide ((unhide HB).trans (hb2.mono (by omega)));have hz2:=Nat.lt_of_lt_of_le hz' hb2.size;clear hown hg hb2)
   go_wp2
   exact ⟨⟨1+1,by omega,by go_num,by rw [unhide HL];exact unhide HO2,unhide HB2,hz2⟩,by simp [intOf]⟩
  ·have HL:=hide (show (Wire.le4 a ++ Wire.le4 b ++ Wire.le4 c).take (4 * (2+1))=(Wire.le4 a ++ Wire.le4 b ++ Wire.le4 c).take (4 * 2) ++ Wire.le4 c by simp [Wire.le4])
   go_upto_region 6 with (go_at_call 103;refine (appendNumber_any (w.heap.size+1) (c:Int) u3 _ wr (by simp only [List.length_take,List.length_append,hl];omega) (by omega) (by omega) (unhide HO)).mono ?_;rintro r z ⟨v',rfl,hown,hg⟩;have hb2:Below (w.heap.size+1) wr z:=below_grown_new hg (by omega) (fun g hg => ((unhide HO).lt g hg).1);have HO2:=hide hown;have HB2:=hide ((unhide HB).trans (hb2.mono (by omega)));have hz2:=Nat.lt_of_lt_of_le hz' hb2.size;clear hown hg hb2)
   go_wp2
   exact ⟨⟨2+1,by omega,by go_num,by rw [unhide HL];exact unhide HO2,unhide HB2,hz2⟩,by simp [intOf]⟩
  ·have hlen:(Wire.le4 a ++ Wire.le4 b ++ Wire.le4 c).length=12:=by simp [hl]
   rw [List.take_of_length_le (by rw [hlen];omega)] at HO
   have had:=(unhide HO).addr (by rw [hlen];omega)
   rw [hlen] at had
   obtain ⟨g,cap,rfl,hgB,hgl,hcap1,hcap2,hcell⟩:=had
   have hconv:=conv_str (w:=wr) (b:=g) (off:=0) (cap:=cap) hlen hcell
   generalize hfr:Wire.le4 a ++ Wire.le4 b ++ Wire.le4 c=fr at *
   replace hfr:=hide hfr
   clear hcell HO
   go_wp2
   go_ret
   exact ⟨(congrArg (fun x:List UInt8 => Ending.returned (Value.string ⟨x.toArray⟩)) (unhide hfr)).symm,unhide HB⟩
end Go.Proofs.YtamafdcnbcoegabGreat
