/-
  Part 13 of a proof: L12, L13, L14, L15, L16, L17, L18, T3, L19, L20, MonoFootIn, L21.
-/
import Derived.Maps.AppendAt
import Derived.OrdersIn
import Derived.Test.YtamafdcnbcoegabGreatAn12
namespace Go.Proofs.YtamafdcnbcoegabGreat
open Go.RowKit
section
variable {w:World} {p:Nat} {g0:Nat→Nat} {free:List Nat} {sh:Nat→List (Nat × Value)} {st:Mod.Stv} {c:Av} {a a2:Mod.Ag} {pl:Nat→List Nat}
set_option maxRecDepth 100000 in
set_option maxHeartbeats 4000000 in
theorem agDeliver_no (H:PaAt w p g0 a.ticks a.welcome a.fenced free sh st c) (hs:Sound st) (O:OnAg a st.opening g0 free sh pl) (bs:Value) (l:List UInt8) (hat:BytesAt w bs l) (hr:Wire.reads l=false) :
  Calls Tryz.prog 45 #[ptrTo p,bs] w fun r z => r = .returned (.int .i64 1)∧AgIs w z p a c:=by
 have c0:w.cell? ⟨p,0,none⟩=some (ptrTo c.s):=by rw [blk_cell H.ks.blk,H.ks.a0]
 have hID:=storeIsDead_any H.stt
 rw [hs.1] at hID
 have HID:=hide hID
 have hDC:=decode_any bs l w hat
 rw [hr] at hDC
 simp only [Bool.false_eq_true,if_false,zeroFr] at hDC
 have HDC:=hide hDC
 have HK:=hide (agIs_refl H hs O)
 clear H hID hDC
 unfold ptrTo at *
 go_enter Tryz.func45,Tryz.ntmps45
 go_wp2_with (first | (go_at_call 66;refine (unhide HID).mono ?_;rintro r y ⟨rfl,rfl⟩) | (go_at_call 69;refine (unhide HDC).mono ?_;rintro r y ⟨rfl,hb⟩;replace hb:=hide hb))
 go_ret
 exact ⟨rfl,(unhide HK).below ((unhide hb).alloc (unhide hb).size _)⟩
set_option maxRecDepth 100000 in
set_option maxHeartbeats 4000000 in
theorem agDeliver_0 (H:PaAt w p g0 a.ticks a.welcome a.fenced free sh st c) (hs:Sound st) (O:OnAg a st.opening g0 free sh pl) (bs:Value) (k e s q:Int) (b:ByteArray) (hk:k=2)
  (hDec:∀ y,Below w.heap.size w y→Calls Tryz.prog 69 #[bs] y fun r z => r = .returned (.tuple #[.agg #[.int .i64 k,.int .i64 e,.int .i64 s,.int .i64 q,.string b],.int .i64 0])∧Below y.heap.size y z)
  (hC:∀ y,Below w.heap.size w y→Calls Tryz.prog 76 #[ptrTo p,.agg #[.int .i64 2,.int .i64 e,.int .i64 s,.int .i64 q,.string b]] y fun r z => r = .returned (.int .i64 0)∧AgIs y z p a2 c) :
  Calls Tryz.prog 45 #[ptrTo p,bs] w fun r z => r = .returned (.int .i64 0)∧AgIs w z p a2 c:=by
 have c0:w.cell? ⟨p,0,none⟩=some (ptrTo c.s):=by rw [blk_cell H.ks.blk,H.ks.a0]
 have hID:=storeIsDead_any H.stt
 rw [hs.1] at hID
 have HID:=hide hID
 have HDC:=hide (hDec w (Below.refl _ _))
 subst hk
 have hCC:=fun y hy => hide (hC y hy)
 clear hC
 obtain ⟨ad,cap,hrv,hcap1,hcap2,hcells⟩:=H.rl.shape
 obtain ⟨g,o,rfl,hcl⟩:=hcells (by omega)
 have r0:w.cell? ⟨g,o,none⟩=some (.int .i64 2):=by have:=hcl 0 (by omega);simpa [agRules] using this
 have r1:w.cell? ⟨g,o+1,none⟩=some (.func (.func 76) #[ptrTo p] #[]):=by have:=hcl 1 (by omega);simpa [agRules] using this
 have r2:w.cell? ⟨g,o+2,none⟩=some (.int .i64 4):=by have:=hcl 2 (by omega);simpa [agRules] using this
 have r3:w.cell? ⟨g,o+2+1,none⟩=some (.func (.func 77) #[ptrTo p] #[]):=by have:=hcl 3 (by omega);simpa [agRules] using this
 have r4:w.cell? ⟨g,o+4,none⟩=some (.int .i64 5):=by have:=hcl 4 (by omega);simpa [agRules] using this
 have r5:w.cell? ⟨g,o+4+1,none⟩=some (.func (.func 78) #[ptrTo p] #[]):=by have:=hcl 5 (by omega);simpa [agRules] using this
 have c26:w.cell? ⟨p,26,none⟩=some (.slice (some ⟨g,o,none⟩) 3 cap):=by rw [blk_cell H.ks.blk,H.ks.ar,hrv]
 have hgl:g < w.heap.size:=World.block_lt_of_cell? _ _ r0
 have hpl:=lt_of_block H.ks.blk
 have HST:=hide (agIs_refl H hs O)
 clear H hID hDec hcl hcells hrv
 unfold ptrTo at *
 go_enter Tryz.func45,Tryz.ntmps45
 go_upto_region 4 with (first | (go_at_call 66;refine (unhide HID).mono ?_;rintro r y ⟨rfl,hyw⟩;obtain rfl:w=y:=hyw.symm) | (go_at_call 69;refine (unhide HDC).mono ?_;rintro r y ⟨rfl,hb⟩))
 obtain ⟨g6,hg6⟩:∃ g6,g6=y.heap.size:=⟨_,rfl⟩
 have hgw:w.heap.size ≤ g6:=by have:=hb.size;omega
 have HG6:=hide hg6
 have HB:=hide hb
 rw [← hg6]
 clear hg6 hb
 refine wp_world (fun u => u.heap[g6]? = some (.cells #[.int .i64 2,.int .i64 e,.int .i64 s,.int .i64 q,.string b] 63 (0,0))∧Below w.heap.size w u) ?_ ?_
 ·rw [unhide HG6]
  exact ⟨heap_alloc_new _ _,(unhide HB).alloc (unhide HB).size _⟩
 clear HG6 HB c0 HDC HID
 rintro u ⟨h6,hbu⟩
 have d26:=(hbu.cell (p:=⟨p,26,none⟩) hpl).trans c26
 have H6:=hide h6
 have HU:=hide hbu
 clear h6 hbu c26
 go_wp2
 go_loopw [8,27] (fun _ i wr => ∃ j:Nat,j ≤ 0∧i = .int .i64 j∧wr.heap[g6]? = some (.cells #[.int .i64 2,.int .i64 e,.int .i64 s,.int .i64 q,.string b] 63 (0,0))∧Below w.heap.size w wr) (fun _ i _ => 4 - (intOf i).toNat)
 case atStart => exact ⟨0,by omega,rfl,unhide H6,unhide HU⟩
 case round =>
  obtain ⟨j,hj,rfl,h6,hb⟩:=hrel
  clear H6 HU d26
  have s0:=(hb.cell (p:=⟨g,o,none⟩) hgl).trans r0
  have s1:=(hb.cell (p:=⟨g,o+1,none⟩) hgl).trans r1
  have s2:=(hb.cell (p:=⟨g,o+2,none⟩) hgl).trans r2
  have s3:=(hb.cell (p:=⟨g,o+2+1,none⟩) hgl).trans r3
  have s4:=(hb.cell (p:=⟨g,o+4,none⟩) hgl).trans r4
  have s5:=(hb.cell (p:=⟨g,o+4+1,none⟩) hgl).trans r5
  have y0:=blk_cell (i:=0) h6
  have y1:=blk_cell (i:=1) h6
  have y2:=blk_cell (i:=2) h6
  have y3:=blk_cell (i:=3) h6
  have y4:=blk_cell (i:=4) h6
  simp at y0 y1 y2 y3 y4
  have h6l:=lt_of_block h6
  have HH6:=hide h6
  have HBB:=hide hb
  have hnext:∀ ob,(wr.alloc ob).heap[g6]? = some (.cells #[.int .i64 2,.int .i64 e,.int .i64 s,.int .i64 q,.string b] 63 (0,0))∧Below w.heap.size w (wr.alloc ob):=fun ob => ⟨(hao _ _ h6l).trans h6,hb.alloc hb.size _⟩
  have HNX:=hide hnext
  clear h6 hb hnext r0 r1 r2 r3 r4 r5
  have hsf0:∀ (ad:Addr) (m:Mode) (z:World),(store ad (.func (.func 76) #[.pointer (some ⟨p,0,none⟩)] #[]) m).run Tryz.prog z=stored Tryz.prog z ad (.func (.func 76) #[.pointer (some ⟨p,0,none⟩)] #[]) m:=fun ad m z => run_store _ _ _ _ _ rfl
  have hsf1:∀ (ad:Addr) (m:Mode) (z:World),(store ad (.func (.func 77) #[.pointer (some ⟨p,0,none⟩)] #[]) m).run Tryz.prog z=stored Tryz.prog z ad (.func (.func 77) #[.pointer (some ⟨p,0,none⟩)] #[]) m:=fun ad m z => run_store _ _ _ _ _ rfl
  have hsf2:∀ (ad:Addr) (m:Mode) (z:World),(store ad (.func (.func 78) #[.pointer (some ⟨p,0,none⟩)] #[]) m).run Tryz.prog z=stored Tryz.prog z ad (.func (.func 78) #[.pointer (some ⟨p,0,none⟩)] #[]) m:=fun ad m z => run_store _ _ _ _ _ rfl
  obtain rfl:j=0:=by omega
  focus
   go_wp2_with (go_at_call 76;refine (unhide (hCC _ (by first | exact ((unhide HNX) _).2 | exact (unhide HBB)))).mono ?_;rintro r z ⟨rfl,k1⟩;replace k1:=hide k1)
   go_ret
   exact ⟨rfl,(unhide k1).behind (by first | exact ((unhide HNX) _).2 | exact (unhide HBB))⟩
set_option maxRecDepth 100000 in
set_option maxHeartbeats 4000000 in
theorem agDeliver_1 (H:PaAt w p g0 a.ticks a.welcome a.fenced free sh st c) (hs:Sound st) (O:OnAg a st.opening g0 free sh pl) (bs:Value) (k e s q:Int) (b:ByteArray) (hk:k=4)
  (hDec:∀ y,Below w.heap.size w y→Calls Tryz.prog 69 #[bs] y fun r z => r = .returned (.tuple #[.agg #[.int .i64 k,.int .i64 e,.int .i64 s,.int .i64 q,.string b],.int .i64 0])∧Below y.heap.size y z)
  (hC:∀ y,Below w.heap.size w y→Calls Tryz.prog 77 #[ptrTo p,.agg #[.int .i64 4,.int .i64 e,.int .i64 s,.int .i64 q,.string b]] y fun r z => r = .returned (.int .i64 0)∧AgIs y z p a2 c) :
  Calls Tryz.prog 45 #[ptrTo p,bs] w fun r z => r = .returned (.int .i64 0)∧AgIs w z p a2 c:=by
 have c0:w.cell? ⟨p,0,none⟩=some (ptrTo c.s):=by rw [blk_cell H.ks.blk,H.ks.a0]
 have hID:=storeIsDead_any H.stt
 rw [hs.1] at hID
 have HID:=hide hID
 have HDC:=hide (hDec w (Below.refl _ _))
 subst hk
 have hCC:=fun y hy => hide (hC y hy)
 clear hC
 obtain ⟨ad,cap,hrv,hcap1,hcap2,hcells⟩:=H.rl.shape
 obtain ⟨g,o,rfl,hcl⟩:=hcells (by omega)
 have r0:w.cell? ⟨g,o,none⟩=some (.int .i64 2):=by have:=hcl 0 (by omega);simpa [agRules] using this
 have r1:w.cell? ⟨g,o+1,none⟩=some (.func (.func 76) #[ptrTo p] #[]):=by have:=hcl 1 (by omega);simpa [agRules] using this
 have r2:w.cell? ⟨g,o+2,none⟩=some (.int .i64 4):=by have:=hcl 2 (by omega);simpa [agRules] using this
 have r3:w.cell? ⟨g,o+2+1,none⟩=some (.func (.func 77) #[ptrTo p] #[]):=by have:=hcl 3 (by omega);simpa [agRules] using this
 have r4:w.cell? ⟨g,o+4,none⟩=some (.int .i64 5):=by have:=hcl 4 (by omega);simpa [agRules] using this
 have r5:w.cell? ⟨g,o+4+1,none⟩=some (.func (.func 78) #[ptrTo p] #[]):=by have:=hcl 5 (by omega);simpa [agRules] using this
 have c26:w.cell? ⟨p,26,none⟩=some (.slice (some ⟨g,o,none⟩) 3 cap):=by rw [blk_cell H.ks.blk,H.ks.ar,hrv]
 have hgl:g < w.heap.size:=World.block_lt_of_cell? _ _ r0
 have hpl:=lt_of_block H.ks.blk
 have HST:=hide (agIs_refl H hs O)
 clear H hID hDec hcl hcells hrv
 unfold ptrTo at *
 go_enter Tryz.func45,Tryz.ntmps45
 go_upto_region 4 with (first | (go_at_call 66;refine (unhide HID).mono ?_;rintro r y ⟨rfl,hyw⟩;obtain rfl:w=y:=hyw.symm) | (go_at_call 69;refine (unhide HDC).mono ?_;rintro r y ⟨rfl,hb⟩))
 obtain ⟨g6,hg6⟩:∃ g6,g6=y.heap.size:=⟨_,rfl⟩
 have hgw:w.heap.size ≤ g6:=by have:=hb.size;omega
 have HG6:=hide hg6
 have HB:=hide hb
 rw [← hg6]
 clear hg6 hb
 refine wp_world (fun u => u.heap[g6]? = some (.cells #[.int .i64 4,.int .i64 e,.int .i64 s,.int .i64 q,.string b] 63 (0,0))∧Below w.heap.size w u) ?_ ?_
 ·rw [unhide HG6]
  exact ⟨heap_alloc_new _ _,(unhide HB).alloc (unhide HB).size _⟩
 clear HG6 HB c0 HDC HID
 rintro u ⟨h6,hbu⟩
 have d26:=(hbu.cell (p:=⟨p,26,none⟩) hpl).trans c26
 have H6:=hide h6
 have HU:=hide hbu
 clear h6 hbu c26
 go_wp2
 go_loopw [8,27] (fun _ i wr => ∃ j:Nat,j ≤ 1∧i = .int .i64 j∧wr.heap[g6]? = some (.cells #[.int .i64 4,.int .i64 e,.int .i64 s,.int .i64 q,.string b] 63 (0,0))∧Below w.heap.size w wr) (fun _ i _ => 4 - (intOf i).toNat)
 case atStart => exact ⟨0,by omega,rfl,unhide H6,unhide HU⟩
 case round =>
  obtain ⟨j,hj,rfl,h6,hb⟩:=hrel
  clear H6 HU d26
  have s0:=(hb.cell (p:=⟨g,o,none⟩) hgl).trans r0
  have s1:=(hb.cell (p:=⟨g,o+1,none⟩) hgl).trans r1
  have s2:=(hb.cell (p:=⟨g,o+2,none⟩) hgl).trans r2
  have s3:=(hb.cell (p:=⟨g,o+2+1,none⟩) hgl).trans r3
  have s4:=(hb.cell (p:=⟨g,o+4,none⟩) hgl).trans r4
  have s5:=(hb.cell (p:=⟨g,o+4+1,none⟩) hgl).trans r5
  have y0:=blk_cell (i:=0) h6
  have y1:=blk_cell (i:=1) h6
  have y2:=blk_cell (i:=2) h6
  have y3:=blk_cell (i:=3) h6
  have y4:=blk_cell (i:=4) h6
  simp at y0 y1 y2 y3 y4
  have h6l:=lt_of_block h6
  have HH6:=hide h6
  have HBB:=hide hb
  have hnext:∀ ob,(wr.alloc ob).heap[g6]? = some (.cells #[.int .i64 4,.int .i64 e,.int .i64 s,.int .i64 q,.string b] 63 (0,0))∧Below w.heap.size w (wr.alloc ob):=fun ob => ⟨(hao _ _ h6l).trans h6,hb.alloc hb.size _⟩
  have HNX:=hide hnext
  clear h6 hb hnext r0 r1 r2 r3 r4 r5
  have hsf0:∀ (ad:Addr) (m:Mode) (z:World),(store ad (.func (.func 76) #[.pointer (some ⟨p,0,none⟩)] #[]) m).run Tryz.prog z=stored Tryz.prog z ad (.func (.func 76) #[.pointer (some ⟨p,0,none⟩)] #[]) m:=fun ad m z => run_store _ _ _ _ _ rfl
  have hsf1:∀ (ad:Addr) (m:Mode) (z:World),(store ad (.func (.func 77) #[.pointer (some ⟨p,0,none⟩)] #[]) m).run Tryz.prog z=stored Tryz.prog z ad (.func (.func 77) #[.pointer (some ⟨p,0,none⟩)] #[]) m:=fun ad m z => run_store _ _ _ _ _ rfl
  have hsf2:∀ (ad:Addr) (m:Mode) (z:World),(store ad (.func (.func 78) #[.pointer (some ⟨p,0,none⟩)] #[]) m).run Tryz.prog z=stored Tryz.prog z ad (.func (.func 78) #[.pointer (some ⟨p,0,none⟩)] #[]) m:=fun ad m z => run_store _ _ _ _ _ rfl
  rcases (show j=0 ∨ j=1 by omega) with rfl | rfl
  focus
   go_wp2
   exact ⟨⟨1,by omega,by go_num,(unhide HNX) _⟩,by simp [intOf]⟩
  focus
   go_wp2_with (go_at_call 77;refine (unhide (hCC _ (by first | exact ((unhide HNX) _).2 | exact (unhide HBB)))).mono ?_;rintro r z ⟨rfl,k1⟩;replace k1:=hide k1)
   go_ret
   exact ⟨rfl,(unhide k1).behind (by first | exact ((unhide HNX) _).2 | exact (unhide HBB))⟩
set_option maxRecDepth 100000 in
set_option maxHeartbeats 4000000 in
theorem agDeliver_2 (H:PaAt w p g0 a.ticks a.welcome a.fenced free sh st c) (hs:Sound st) (O:OnAg a st.opening g0 free sh pl) (bs:Value) (k e s q:Int) (b:ByteArray) (hk:k=5)
  (hDec:∀ y,Below w.heap.size w y→Calls Tryz.prog 69 #[bs] y fun r z => r = .returned (.tuple #[.agg #[.int .i64 k,.int .i64 e,.int .i64 s,.int .i64 q,.string b],.int .i64 0])∧Below y.heap.size y z)
  (hC:∀ y,Below w.heap.size w y→Calls Tryz.prog 78 #[ptrTo p,.agg #[.int .i64 5,.int .i64 e,.int .i64 s,.int .i64 q,.string b]] y fun r z => r = .returned (.int .i64 0)∧AgIs y z p a2 c) :
  Calls Tryz.prog 45 #[ptrTo p,bs] w fun r z => r = .returned (.int .i64 0)∧AgIs w z p a2 c:=by
 have c0:w.cell? ⟨p,0,none⟩=some (ptrTo c.s):=by rw [blk_cell H.ks.blk,H.ks.a0]
 have hID:=storeIsDead_any H.stt
 rw [hs.1] at hID
 have HID:=hide hID
 have HDC:=hide (hDec w (Below.refl _ _))
 subst hk
 have hCC:=fun y hy => hide (hC y hy)
 clear hC
 obtain ⟨ad,cap,hrv,hcap1,hcap2,hcells⟩:=H.rl.shape
 obtain ⟨g,o,rfl,hcl⟩:=hcells (by omega)
 have r0:w.cell? ⟨g,o,none⟩=some (.int .i64 2):=by have:=hcl 0 (by omega);simpa [agRules] using this
 have r1:w.cell? ⟨g,o+1,none⟩=some (.func (.func 76) #[ptrTo p] #[]):=by have:=hcl 1 (by omega);simpa [agRules] using this
 have r2:w.cell? ⟨g,o+2,none⟩=some (.int .i64 4):=by have:=hcl 2 (by omega);simpa [agRules] using this
 have r3:w.cell? ⟨g,o+2+1,none⟩=some (.func (.func 77) #[ptrTo p] #[]):=by have:=hcl 3 (by omega);simpa [agRules] using this
 have r4:w.cell? ⟨g,o+4,none⟩=some (.int .i64 5):=by have:=hcl 4 (by omega);simpa [agRules] using this
 have r5:w.cell? ⟨g,o+4+1,none⟩=some (.func (.func 78) #[ptrTo p] #[]):=by have:=hcl 5 (by omega);simpa [agRules] using this
 have c26:w.cell? ⟨p,26,none⟩=some (.slice (some ⟨g,o,none⟩) 3 cap):=by rw [blk_cell H.ks.blk,H.ks.ar,hrv]
 have hgl:g < w.heap.size:=World.block_lt_of_cell? _ _ r0
 have hpl:=lt_of_block H.ks.blk
 have HST:=hide (agIs_refl H hs O)
 clear H hID hDec hcl hcells hrv
 unfold ptrTo at *
 go_enter Tryz.func45,Tryz.ntmps45
 go_upto_region 4 with (first | (go_at_call 66;refine (unhide HID).mono ?_;rintro r y ⟨rfl,hyw⟩;obtain rfl:w=y:=hyw.symm) | (go_at_call 69;refine (unhide HDC).mono ?_;rintro r y ⟨rfl,hb⟩))
 obtain ⟨g6,hg6⟩:∃ g6,g6=y.heap.size:=⟨_,rfl⟩
 have hgw:w.heap.size ≤ g6:=by have:=hb.size;omega
 have HG6:=hide hg6
 have HB:=hide hb
 rw [← hg6]
 clear hg6 hb
 refine wp_world (fun u => u.heap[g6]? = some (.cells #[.int .i64 5,.int .i64 e,.int .i64 s,.int .i64 q,.string b] 63 (0,0))∧Below w.heap.size w u) ?_ ?_
 ·rw [unhide HG6]
  exact ⟨heap_alloc_new _ _,(unhide HB).alloc (unhide HB).size _⟩
 clear HG6 HB c0 HDC HID
 rintro u ⟨h6,hbu⟩
 have d26:=(hbu.cell (p:=⟨p,26,none⟩) hpl).trans c26
 have H6:=hide h6
 have HU:=hide hbu
 clear h6 hbu c26
 go_wp2
 go_loopw [8,27] (fun _ i wr => ∃ j:Nat,j ≤ 2∧i = .int .i64 j∧wr.heap[g6]? = some (.cells #[.int .i64 5,.int .i64 e,.int .i64 s,.int .i64 q,.string b] 63 (0,0))∧Below w.heap.size w wr) (fun _ i _ => 4 - (intOf i).toNat)
 case atStart => exact ⟨0,by omega,rfl,unhide H6,unhide HU⟩
 case round =>
  obtain ⟨j,hj,rfl,h6,hb⟩:=hrel
  clear H6 HU d26
  have s0:=(hb.cell (p:=⟨g,o,none⟩) hgl).trans r0
  have s1:=(hb.cell (p:=⟨g,o+1,none⟩) hgl).trans r1
  have s2:=(hb.cell (p:=⟨g,o+2,none⟩) hgl).trans r2
  have s3:=(hb.cell (p:=⟨g,o+2+1,none⟩) hgl).trans r3
  have s4:=(hb.cell (p:=⟨g,o+4,none⟩) hgl).trans r4
  have s5:=(hb.cell (p:=⟨g,o+4+1,none⟩) hgl).trans r5
  have y0:=blk_cell (i:=0) h6
  have y1:=blk_cell (i:=1) h6
  have y2:=blk_cell (i:=2) h6
  have y3:=blk_cell (i:=3) h6
  have y4:=blk_cell (i:=4) h6
  simp at y0 y1 y2 y3 y4
  have h6l:=lt_of_block h6
  have HH6:=hide h6
  have HBB:=hide hb
  have hnext:∀ ob,(wr.alloc ob).heap[g6]? = some (.cells #[.int .i64 5,.int .i64 e,.int .i64 s,.int .i64 q,.string b] 63 (0,0))∧Below w.heap.size w (wr.alloc ob):=fun ob => ⟨(hao _ _ h6l).trans h6,hb.alloc hb.size _⟩
  have HNX:=hide hnext
  clear h6 hb hnext r0 r1 r2 r3 r4 r5
  have hsf0:∀ (ad:Addr) (m:Mode) (z:World),(store ad (.func (.func 76) #[.pointer (some ⟨p,0,none⟩)] #[]) m).run Tryz.prog z=stored Tryz.prog z ad (.func (.func 76) #[.pointer (some ⟨p,0,none⟩)] #[]) m:=fun ad m z => run_store _ _ _ _ _ rfl
  have hsf1:∀ (ad:Addr) (m:Mode) (z:World),(store ad (.func (.func 77) #[.pointer (some ⟨p,0,none⟩)] #[]) m).run Tryz.prog z=stored Tryz.prog z ad (.func (.func 77) #[.pointer (some ⟨p,0,none⟩)] #[]) m:=fun ad m z => run_store _ _ _ _ _ rfl
  have hsf2:∀ (ad:Addr) (m:Mode) (z:World),(store ad (.func (.func 78) #[.pointer (some ⟨p,0,none⟩)] #[]) m).run Tryz.prog z=stored Tryz.prog z ad (.func (.func 78) #[.pointer (some ⟨p,0,none⟩)] #[]) m:=fun ad m z => run_store _ _ _ _ _ rfl
  rcases (show j=0 ∨ j=1 ∨ j=2 by omega) with rfl | rfl | rfl
  focus
   go_wp2
   exact ⟨⟨1,by omega,by go_num,(unhide HNX) _⟩,by simp [intOf]⟩
  focus
   go_wp2
   exact ⟨⟨2,by omega,by go_num,(unhide HNX) _⟩,by simp [intOf]⟩
  focus
   go_wp2_with (go_at_call 78;refine (unhide (hCC _ (by first | exact ((unhide HNX) _).2 | exact (unhide HBB)))).mono ?_;rintro r z ⟨rfl,k1⟩;replace k1:=hide k1)
   go_ret
   exact ⟨rfl,(unhide k1).behind (by first | exact ((unhide HNX) _).2 | exact (unhide HBB))⟩
set_option maxRecDepth 100000 in
set_option maxHeartbeats 4000000 in
theorem agDeliver_none (H:PaAt w p g0 a.ticks a.welcome a.fenced free sh st c) (hs:Sound st) (O:OnAg a st.opening g0 free sh pl) (bs:Value) (k e s q:Int) (b:ByteArray) (k2:k ≠ 2) (k4:k ≠ 4) (k5:k ≠ 5)
  (hDec:∀ y,Below w.heap.size w y→Calls Tryz.prog 69 #[bs] y fun r z => r = .returned (.tuple #[.agg #[.int .i64 k,.int .i64 e,.int .i64 s,.int .i64 q,.string b],.int .i64 0])∧Below y.heap.size y z) :
  Calls Tryz.prog 45 #[ptrTo p,bs] w fun r z => r = .returned (.int .i64 0)∧AgIs w z p a c:=by
 have c0:w.cell? ⟨p,0,none⟩=some (ptrTo c.s):=by rw [blk_cell H.ks.blk,H.ks.a0]
 have hID:=storeIsDead_any H.stt
 rw [hs.1] at hID
 have HID:=hide hID
 have HDC:=hide (hDec w (Below.refl _ _))
 have e2:((2:Int) == k)=false:=by simp;omega
 have e4:((4:Int) == k)=false:=by simp;omega
 have e5:((5:Int) == k)=false:=by simp;omega
 obtain ⟨ad,cap,hrv,hcap1,hcap2,hcells⟩:=H.rl.shape
 obtain ⟨g,o,rfl,hcl⟩:=hcells (by omega)
 have r0:w.cell? ⟨g,o,none⟩=some (.int .i64 2):=by have:=hcl 0 (by omega);simpa [agRules] using this
 have r1:w.cell? ⟨g,o+1,none⟩=some (.func (.func 76) #[ptrTo p] #[]):=by have:=hcl 1 (by omega);simpa [agRules] using this
 have r2:w.cell? ⟨g,o+2,none⟩=some (.int .i64 4):=by have:=hcl 2 (by omega);simpa [agRules] using this
 have r3:w.cell? ⟨g,o+2+1,none⟩=some (.func (.func 77) #[ptrTo p] #[]):=by have:=hcl 3 (by omega);simpa [agRules] using this
 have r4:w.cell? ⟨g,o+4,none⟩=some (.int .i64 5):=by have:=hcl 4 (by omega);simpa [agRules] using this
 have r5:w.cell? ⟨g,o+4+1,none⟩=some (.func (.func 78) #[ptrTo p] #[]):=by have:=hcl 5 (by omega);simpa [agRules] using this
 have c26:w.cell? ⟨p,26,none⟩=some (.slice (some ⟨g,o,none⟩) 3 cap):=by rw [blk_cell H.ks.blk,H.ks.ar,hrv]
 have hgl:g < w.heap.size:=World.block_lt_of_cell? _ _ r0
 have hpl:=lt_of_block H.ks.blk
 have HST:=hide (agIs_refl H hs O)
 clear H hID hDec hcl hcells hrv
 unfold ptrTo at *
 go_enter Tryz.func45,Tryz.ntmps45
 go_upto_region 4 with (first | (go_at_call 66;refine (unhide HID).mono ?_;rintro r y ⟨rfl,hyw⟩;obtain rfl:w=y:=hyw.symm) | (go_at_call 69;refine (unhide HDC).mono ?_;rintro r y ⟨rfl,hb⟩))
 obtain ⟨g6,hg6⟩:∃ g6,g6=y.heap.size:=⟨_,rfl⟩
 have hgw:w.heap.size ≤ g6:=by have:=hb.size;omega
 have HG6:=hide hg6
 have HB:=hide hb
 rw [← hg6]
 clear hg6 hb
 refine wp_world (fun u => u.heap[g6]? = some (.cells #[.int .i64 k,.int .i64 e,.int .i64 s,.int .i64 q,.string b] 63 (0,0))∧Below w.heap.size w u) ?_ ?_
 ·rw [unhide HG6]
  exact ⟨heap_alloc_new _ _,(unhide HB).alloc (unhide HB).size _⟩
 clear HG6 HB c0 HDC HID
 rintro u ⟨h6,hbu⟩
 have d26:=(hbu.cell (p:=⟨p,26,none⟩) hpl).trans c26
 have H6:=hide h6
 have HU:=hide hbu
 clear h6 hbu c26
 go_wp2
 go_loopw [8,27] (fun _ i wr => ∃ j:Nat,j ≤ 3∧i = .int .i64 j∧wr.heap[g6]? = some (.cells #[.int .i64 k,.int .i64 e,.int .i64 s,.int .i64 q,.string b] 63 (0,0))∧Below w.heap.size w wr) (fun _ i _ => 4 - (intOf i).toNat)
 case atStart => exact ⟨0,by omega,rfl,unhide H6,unhide HU⟩
 case round =>
  obtain ⟨j,hj,rfl,h6,hb⟩:=hrel
  clear H6 HU d26
  have s0:=(hb.cell (p:=⟨g,o,none⟩) hgl).trans r0
  have s1:=(hb.cell (p:=⟨g,o+1,none⟩) hgl).trans r1
  have s2:=(hb.cell (p:=⟨g,o+2,none⟩) hgl).trans r2
  have s3:=(hb.cell (p:=⟨g,o+2+1,none⟩) hgl).trans r3
  have s4:=(hb.cell (p:=⟨g,o+4,none⟩) hgl).trans r4
  have s5:=(hb.cell (p:=⟨g,o+4+1,none⟩) hgl).trans r5
  have y0:=blk_cell (i:=0) h6
  have y1:=blk_cell (i:=1) h6
  have y2:=blk_cell (i:=2) h6
  have y3:=blk_cell (i:=3) h6
  have y4:=blk_cell (i:=4) h6
  simp at y0 y1 y2 y3 y4
  have h6l:=lt_of_block h6
  have HH6:=hide h6
  have HBB:=hide hb
  have hnext:∀ ob,(wr.alloc ob).heap[g6]? = some (.cells #[.int .i64 k,.int .i64 e,.int .i64 s,.int .i64 q,.string b] 63 (0,0))∧Below w.heap.size w (wr.alloc ob):=fun ob => ⟨(hao _ _ h6l).trans h6,hb.alloc hb.size _⟩
  have HNX:=hide hnext
  clear h6 hb hnext r0 r1 r2 r3 r4 r5
  have hsf0:∀ (ad:Addr) (m:Mode) (z:World),(store ad (.func (.func 76) #[.pointer (some ⟨p,0,none⟩)] #[]) m).run Tryz.prog z=stored Tryz.prog z ad (.func (.func 76) #[.pointer (some ⟨p,0,none⟩)] #[]) m:=fun ad m z => run_store _ _ _ _ _ rfl
  have hsf1:∀ (ad:Addr) (m:Mode) (z:World),(store ad (.func (.func 77) #[.pointer (some ⟨p,0,none⟩)] #[]) m).run Tryz.prog z=stored Tryz.prog z ad (.func (.func 77) #[.pointer (some ⟨p,0,none⟩)] #[]) m:=fun ad m z => run_store _ _ _ _ _ rfl
  have hsf2:∀ (ad:Addr) (m:Mode) (z:World),(store ad (.func (.func 78) #[.pointer (some ⟨p,0,none⟩)] #[]) m).run Tryz.prog z=stored Tryz.prog z ad (.func (.func 78) #[.pointer (some ⟨p,0,none⟩)] #[]) m:=fun ad m z => run_store _ _ _ _ _ rfl
  rcases (show j=0 ∨ j=1 ∨ j=2 ∨ j=3 by omega) with rfl | rfl | rfl | rfl
  focus
   go_wp2
   exact ⟨⟨1,by omega,by go_num,(unhide HNX) _⟩,by simp [intOf]⟩
  focus
   go_wp2
   exact ⟨⟨2,by omega,by go_num,(unhide HNX) _⟩,by simp [intOf]⟩
  focus
   go_wp2
   exact ⟨⟨3,by omega,by go_num,(unhide HNX) _⟩,by simp [intOf]⟩
  focus
   go_wp2
   go_ret
   exact ⟨rfl,(unhide HST).below (unhide HBB)⟩
end
theorem agSays_yes {a:Mod.Ag} {l:List UInt8} (hr:Wire.reads l=true) {k:Int} {e s q:Nat} {b:ByteArray} (h1:Wire.kindOf l=k) (h2:Wire.epochOf l=e) (h3:Wire.streamOf l=s) (h4:Wire.seqOf l=q) (h5:Wire.bodyOf l=b) :
  agSays a l=(0,a.deliver k e s q b):=by
 unfold agSays
 rw [hr,h1,h2,h3,h4,h5]
 rfl
theorem agSays_no {a:Mod.Ag} {l:List UInt8} (hr:Wire.reads l=false):agSays a l=(1,a):=by
 unfold agSays
 rw [hr]
 rfl
theorem reads_proper {l:List UInt8} (hr:Wire.reads l=true):Wire.proper (Wire.kindOf l) (Wire.epochOf l) (Wire.streamOf l) (Wire.seqOf l) (Wire.bodyOf l)=true:=by
 unfold Wire.reads at hr
 rw [Bool.and_eq_true] at hr
 exact hr.2
section
variable {w:World} {p:Nat} {g0:Nat→Nat} {free:List Nat} {sh:Nat→List (Nat × Value)} {st:Mod.Stv} {c:Av} {a:Mod.Ag} {pl:Nat→List Nat}
theorem agDeliver_any (H:PaAt w p g0 a.ticks a.welcome a.fenced free sh st c) (hs:Sound st) (O:OnAg a st.opening g0 free sh pl) (hbnd:∀ i,i < 3→(a.fl i).base+(a.fl i).kept.length ≤ 1000000000) (bs:Value) (l:List UInt8) (hat:BytesAt w bs l) :
  Calls Tryz.prog 45 #[ptrTo p,bs] w fun r z => r = .returned (.int .i64 (agSays a l).1)∧AgIs w z p (agSays a l).2 c:=by
 cases hr:Wire.reads l
 ·rw [agSays_no hr]
  exact agDeliver_no H hs O bs l hat hr
 ·have hpr:=reads_proper hr
  obtain ⟨k,e,s,q,b,h1,h2,h3,h4,h5,g1,g2,g3,g4⟩:=reads_parts hr
  rw [agSays_yes hr h1 h2 h3 h4 h5]
  rw [h1,h2,h3,h4,h5] at hpr
  have hDec:∀ y,Below w.heap.size w y→Calls Tryz.prog 69 #[bs] y fun r z => r = .returned (.tuple #[.agg #[.int .i64 k,.int .i64 e,.int .i64 s,.int .i64 q,.string b],.int .i64 0])∧Below y.heap.size y z:=fun y hy => by
   have:=decode_any bs l y (hat.below hy)
   rw [hr] at this
   simp only [if_true,frVal,h1,h2,h3,h4,h5] at this
   exact this
  have HY:=fun y (hy:Below w.heap.size w y) => H.below hy
  by_cases k2:k=2
  ·refine agDeliver_0 H hs O bs k e s q b k2 hDec (fun y hy => ?_)
   subst k2
   by_cases he:e=a.epoch
   ·exact obeyWelcome_yes (HY y hy) hs O e s q b he (proper_2 hpr) (fun i hi => by have:=hbnd i hi;omega)
   ·refine (obeyWelcome_no (HY y hy) O e s q b he).mono ?_
    rintro r z ⟨rfl,hb⟩
    rw [show a.deliver 2 e s q b=a by unfold Mod.Ag.deliver;rw [if_neg (by omega),if_pos (by omega)]]
    exact ⟨rfl,(agIs_refl (HY y hy) hs O).below hb⟩
  ·by_cases k4:k=4
   ·refine agDeliver_1 H hs O bs k e s q b k4 hDec (fun y hy => ?_)
    subst k4
    by_cases he:e=a.epoch∧a.welcome=true
    ·exact obeyAck_do (HY y hy) hs O e s q b he.1 he.2 g2 (by have:=(proper_4 hpr).1;omega) hbnd
    ·refine (obeyAck_skip (HY y hy) O e s q b ?_).mono ?_
     ·by_cases h:e=a.epoch
      ·right
       cases hw:a.welcome
       ·rfl
       ·exact absurd ⟨h,hw⟩ he
      ·exact .inl h
     rintro r z ⟨rfl,hb⟩
     have:a.deliver 4 e s q b=a:=by
      unfold Mod.Ag.deliver
      rw [if_neg (by omega)]
      by_cases h:e=a.epoch
      ·rw [if_neg (by omega),if_neg (by omega),if_neg (by omega),if_pos rfl]
       cases hw:a.welcome
       ·rw [if_pos (.inl (by simp))]
       ·exact absurd ⟨h,hw⟩ he
      ·rw [if_pos (by omega)]
     rw [this]
     exact ⟨rfl,(agIs_refl (HY y hy) hs O).below hb⟩
   ·by_cases k5:k=5
    ·refine agDeliver_2 H hs O bs k e s q b k5 hDec (fun y hy => ?_)
     subst k5
     exact obeyReset_any (HY y hy) hs O e s q b
    ·have:a.deliver k e s q b=a:=by
      unfold Mod.Ag.deliver
      rw [if_neg (by omega)]
      by_cases h:e=a.epoch
      ·rw [if_neg (by omega),if_neg (by omega),if_neg (by omega),if_neg (by omega)]
      ·rw [if_pos (by omega)]
     rw [this]
     exact agDeliver_none H hs O bs k e s q b k2 k4 k5 hDec
end
end Go.Proofs.YtamafdcnbcoegabGreat
namespace Go.Proofs.YtamafdcnbcoegabGreat
open Go.RowKit
attribute [local go_sem] Oper.semAt_some
section
variable {w:World} {p:Nat} {g:Nat→Nat} {free:List Nat} {sh:Nat→List (Nat × Value)} {st:Mod.Stv} {c:Av} {a:Mod.Ag} {pl:Nat→List Nat}
set_option maxRecDepth 100000 in
set_option maxHeartbeats 4000000 in
theorem agSpool_in (H:PaAt w p g a.ticks a.welcome a.fenced free sh st c) (hs:Sound st) (O:OnAg a st.opening g free sh pl) (i:Nat) (hi3:i < 3) :
  Calls Tryz.prog 47 #[ptrTo p,.int .i64 i] w fun r z => ∃ v,r = .returned v∧z.ownsRow w.heap.size 9 1 v (a.spool i).length (strs (a.spool i))∧Below w.heap.size w z:=by
 have c0:w.cell? ⟨p,0,none⟩=some (ptrTo c.s):=by rw [blk_cell H.ks.blk,H.ks.a0]
 have hID:=storeIsDead_any H.stt
 rw [hs.1] at hID
 have HID:=hide hID
 have hIS:=isStream_any (i:Int) w
 rw [show Wire.isStr (i:Int)=true by simp [Wire.isStr];omega] at hIS
 have HIS:=hide hIS
 have hpl:=lt_of_block H.ks.blk
 have HALL:=fun y (hy:Below w.heap.size w y) => hide (allA_any (H.below hy).ks.blk (H.ks.an (i * 3) (by omega)) ((H.below hy).ks.shs (i * 3) (by omega)))
 rw [show 4+i * 3 * 2=4+i * 6 by omega] at HALL
 have hlen:(sh (i * 3)).length=(a.spool i).length:=by
  rw [O.kp i hi3,keptL_length _ _ _ (O.pn i hi3)]
  simp [Mod.Ag.spool]
 have hi0:(0:Int) ≤ (i:Int):=by omega
 have hi3':(i:Int) < 3:=by omega
 have hrec:∀ k (hk:k < (sh (i * 3)).length),∃ (bk:ByteArray) (q:Nat),(sh (i * 3))[k].2=recA bk q∧(a.spool i)[k]? = some bk:=by
  intro k hk
  have hk2:k < (a.fl i).kept.length:=by rw [hlen] at hk;simpa [Mod.Ag.spool] using hk
  have h1:=keptL_get (a.fl i).base (a.fl i).kept (pl i) k (O.pn i hi3) hk2
  rw [← O.kp i hi3,List.getElem?_eq_getElem hk] at h1
  injection h1 with h1
  exact ⟨_,_,by rw [h1],by simp [Mod.Ag.spool,List.getElem?_eq_getElem hk2]⟩
 have hare:AreA (sh (i * 3)):=by rw [O.kp i hi3];exact keptL_are _ _ _
 have hsm:(a.spool i).length ≤ 24:=by
  have h1:=O.sum
  have h2:=room_le (a:=a) hi3
  simp [Mod.Ag.spool];omega
 have HSH:=fun y (hy:Below w.heap.size w y) => hide ((H.below hy).ks.shs (i * 3) (by omega))
 have HN:∀ y (hy:Below w.heap.size w y),Hid (y.cell? ⟨p,4+i * 6,none⟩=some (c.nv (i * 3))∧y.cell? ⟨p,4+i * 6+1,none⟩=some (c.mv (i * 3))):=fun y hy => hide ⟨by
  rw [blk_cell (H.below hy).ks.blk,show 4+i * 6=4+i * 3 * 2 by omega,H.ks.an (i * 3) (by omega)],by
  rw [blk_cell (H.below hy).ks.blk,show 4+i * 6+1=4+i * 3 * 2+1 by omega,H.ks.am (i * 3) (by omega)]⟩
 obtain ⟨L,hL⟩:∃ L,L=sh (i * 3):=⟨_,rfl⟩
 obtain ⟨nv,hnv⟩:∃ v,v=c.nv (i * 3):=⟨_,rfl⟩
 obtain ⟨mv,hmv⟩:∃ v,v=c.mv (i * 3):=⟨_,rfl⟩
 obtain ⟨SP,hSP⟩:∃ SP,SP=a.spool i:=⟨_,rfl⟩
 rw [← hnv,← hmv] at HSH HN
 rw [← hL] at HSH HALL hrec hare hlen
 rw [← hSP] at hrec hlen hsm ⊢
 have HR:=hide hrec
 have HLN:=hide hlen
 clear H O hID hlen hrec hL hnv hmv hSP hIS
 unfold ptrTo at *
 refine callsIn_wide.1 (callsIn_of_wp_marks (n:=5) Tryz.func47 rfl trivial ?_ rfl)
 refine wpIn_wide.2 ?_
 simp only [Tryz.ntmps47,List.size_toArray,List.length_cons,List.length_nil,Nat.reduceAdd,Nat.reduceSub,Array.replicate_succ,Array.replicate_zero,List.push_toArray,List.append_toArray,List.nil_append,List.cons_append]
 go_upto_region 4 with (first | (go_at_call 71;refine (unhide HIS).mono ?_;rintro r y ⟨rfl,hyw⟩;obtain rfl:w=y:=hyw.symm) | (go_at_call 66;refine (unhide HID).mono ?_;rintro r y ⟨rfl,hyw⟩;obtain rfl:w=y:=hyw.symm))
 obtain ⟨g5,hg5⟩:∃ g5,g5=w.heap.size:=⟨_,rfl⟩
 have HG5:=hide hg5
 rw [← hg5]
 refine wp_world (fun x => x.heap[g5]? = some (.cells #[.slice none 0 0] 33 (0,0))∧Below g5 w x∧x.heap.size=g5+1) ?_ ?_
 ·rw [hg5]
  exact ⟨heap_alloc_new _ _,(Below.refl _ _).alloc (Nat.le_refl _) _,by simp⟩
 rintro x ⟨h5,hb,hsz⟩
 have HA:=hide (unhide (HALL x (by rw [← hg5];exact hb)))
 have HX:=hide (And.intro h5 (And.intro hb hsz))
 clear hg5 h5 hb hsz HALL
 go_wp2_with (go_at_call 73;refine (unhide HA).mono ?_;rintro r y ⟨rfl,hy⟩)
 clear HA
 have hD:y.heap.size=g5+3:=by rw [hy];simp [boxed2,(unhide HX).2.2]
 have hx:x.heap.size=g5+1:=(unhide HX).2.2
 have hy0:y.heap[g5]? = some (.cells #[.slice none 0 0] 33 (0,0)):=by
  rw [hy]
  unfold boxed2
  rw [hao _ _ (by simp;omega),hao _ _ (by omega)]
  exact (unhide HX).1
 have hy1:y.heap[g5+1]? = some (.cells #[.pointer (some ⟨p,4+i * 6,none⟩)] 197 (0,0)):=by
  rw [hy]
  unfold boxed2
  rw [hao _ _ (by simp;omega),← hx]
  exact heap_alloc_new _ _
 have hy2:y.heap[g5+2]? = some (.cells #[.int .i64 L.length] 3 (0,0)):=by
  rw [hy]
  unfold boxed2
  have:=heap_alloc_new (x.alloc (.cells #[.pointer (some ⟨p,4+i * 6,none⟩)] 197)) (.cells #[.int .i64 L.length] 3)
  rw [World.size_alloc,hx] at this
  exact this
 have hby:Below g5 w y:=by
  rw [hy]
  unfold boxed2
  exact ((unhide HX).2.1.alloc (by omega) _).alloc (by simp;omega) _
 rw [← hy,hx]
 clear hy hx HX
 refine wpIn_wide.1 (range_first (n:=5) (b:=g5+1) (p:=p) (o:=4+i * 6) (m:=L.length) nv mv L hare rfl rfl (fun k W => (∃ v,W.heap[g5]? = some (.cells #[v] 33 (0,0))∧W.ownsRow (g5+5) 9 1 v k (strs (SP.take k)))∧W.heap[g5+1]? = some (.cells #[.pointer (some ⟨p,4+i * 6,none⟩)] 197 (0,0))∧W.heap[g5+2]? = some (.cells #[.int .i64 L.length] 3 (0,0))∧Below g5 w W∧g5+5 ≤ W.heap.size) ?_ ?_ ?_ ?_ ?_ ?_)
 ·rintro k W W' ⟨⟨v,h5,hr⟩,h1,h2,hb,hz⟩ hS
  rw [hD] at hS
  have hq:=fun k (h:k ≠ g5+3) (h':k ≠ g5+4) => hS.rest k h (by omega)
  refine ⟨⟨v,(hq g5 (by omega) (by omega)).trans h5,ownsRow_keep hr (fun g hg => ?_)⟩,(hq _ (by omega) (by omega)).trans h1,(hq _ (by omega) (by omega)).trans h2,⟨hS.os.trans hb.os,hS.tape.trans hb.tape,hS.output.trans hb.output,by rw [hS.size];exact hb.size,fun k hk => (hq k (by omega) (by omega)).trans (hb.block k hk)⟩,by rw [hS.size];exact hz⟩
  have:=(World.ownsRow.lt hr g hg).1
  exact hq g (by omega) (by omega)
 ·rintro k W ⟨_,h1,h2,hb,_⟩
  have hbw:Below w.heap.size w W:=by rw [← unhide HG5];exact hb
  exact ⟨blk_cell h1,blk_cell h2,(unhide (HN W hbw)).1,(unhide (HN W hbw)).2,unhide (HSH W hbw)⟩
 ·intro W hbW hszW
  have hk:=fun k (hk:k < y.heap.size) => hbW.block k hk
  exact ⟨⟨_,(hk g5 (by omega)).trans hy0,World.ownsRow_nil _ _ _ _⟩,(hk _ (by omega)).trans hy1,(hk _ (by omega)).trans hy2,hby.trans (hbW.mono (by omega)),by omega⟩
 ·intro k hk W hkm hI hle
  rw [hD] at hle ⊢
  obtain ⟨bk,q,hL2,hsp⟩:=(unhide HR) k hk
  rw [hL2]
  obtain ⟨⟨v,h5,hr⟩,h1,h2,hb,hz⟩:=hI
  generalize L[k].1=nk at *
  have htake:SP.take (k+1)=SP.take k ++ [bk]:=by rw [List.take_add_one,hsp];rfl
  have hk24:k < 24:=by have:=unhide HLN;omega
  have HT:=hide htake
  have HI:=hide (And.intro h5 (And.intro hr (And.intro h1 (And.intro h2 (And.intro hb hz)))))
  clear h5 hr h1 h2 hb hz htake hsp hy0 hy1 hy2 hby hL2 hkm hk
  unfold recA
  obtain ⟨g7,hg7⟩:∃ g7,g7=W.heap.size:=⟨_,rfl⟩
  have hg7':g5+5 ≤ g7:=by omega
  have HG7:=hide hg7
  gi_wp2
  refine ⟨⟨hao _ _ (by omega),hao _ _ (by omega)⟩,?_⟩
  intro W2 hS
  obtain ⟨h5,hr,h1,h2,hb,hz⟩:=unhide HI
  have hq:∀ j,j ≠ g5+3→j ≠ g5+4→j < W.heap.size→W2.heap[j]? = W.heap[j]?:=fun j h h' hl => (hS.rest j h (by omega)).trans (hao _ _ hl)
  have h7:W2.heap[g7]? = some (.cells #[.string bk,.int .i64 q] 140 (0,0)):=by
   rw [hS.rest g7 (by omega) (by omega),hg7]
   exact heap_alloc_new _ _
  have hz2:W2.heap.size=g7+1:=by rw [hS.size,hg7];simp
  have h5':=(hq g5 (by omega) (by omega) (by omega)).trans h5
  have h1':=(hq _ (by omega) (by omega) (by omega)).trans h1
  have h2':=(hq _ (by omega) (by omega) (by omega)).trans h2
  have hb':Below g5 w W2:=⟨hS.os.trans hb.os,hS.tape.trans hb.tape,hS.output.trans hb.output,by have:=hb.size;omega,fun j hj => (hq j (by omega) (by omega) (by omega)).trans (hb.block j hj)⟩
  have hr':W2.ownsRow (g5+5) 9 1 v k (strs (SP.take k)):=ownsRow_keep hr (fun g hg => by
   have:=World.ownsRow.lt hr g hg
   exact hq g (by omega) (by omega) this.2)
  obtain ⟨ad,cap,rfl,_⟩:=(own_rowO hr').shape
  have d5:=blk_cell (i:=0) h5'
  have f5:=blk_free (i:=0) h5'
  have d7:=blk_cell (i:=0) h7
  simp at d5 d7
  rw [← hg7]
  obtain ⟨xs,hxs⟩:∃ xs,xs=strs (SP.take k):=⟨_,rfl⟩
  rw [← hxs] at hr'
  have hxl:xs.length=k:=hr'.1 |> fun h => by simpa using h
  have HX2:=hide hxs
  have HS2:=hide (And.intro h5' (And.intro h1' (And.intro h2' hb')))
  have HR2:=hide hr'
  clear h5 hr h1 h2 hb hz hq h7 h5' h1' h2' hb' hr' hS HI hxs hg7
  have h5A:∀ ob,(W2.alloc ob).heap[g5]? = some (.cells #[.slice ad k cap] 33 (0,0)):=fun ob => (hao _ _ (by omega)).trans (unhide HS2).1
  have hNE:∀ j,j < g5+5→some j ≠ (Value.slice ad k cap).ownBlock:=fun j hj e => by
   have:=(World.ownsRow.lt (unhide HR2) j e.symm).1
   omega
  have HNC:=cell_one_new W2 (.string bk) 9
  rw [hz2] at HNC
  obtain ⟨i0,hi,hi0,hi1,hi2⟩:=info_parts infoStr
  gi_wp2_with (gi_at_builtin;go_loud (refine wpListIn_append_own _ rfl (.tmp 27) (.tmp 30) 33 rfl (g5+5) 9 i0 _ 1 16 Tryz.underlying33 hi hi0 hi1 hi2 rfl (by decide) _ k xs rfl (World.ownsRow.alloc (unhide HR2) _) ⟨g7+1,0,none⟩ 1 1 [.string bk] rfl rfl HNC (by simp [Value.oneCell']) (by unfold maxLen;omega) (by omega) (by simp;omega) ?_;intro v' w1 hown' hgrow _;obtain ⟨ad2,cap2,hv2,_⟩:=(own_rowO hown').shape;subst hv2;have h5B:=(hgrow.block g5 (by simp;omega) (hNE g5 (by omega))).trans (h5A _);have d5':=blk_cell (i:=0) h5B;have f5':=blk_free (i:=0) h5B;simp at d5';replace h5B:=hide h5B;replace hown':=hide hown';replace hgrow:=hide hgrow))
  obtain ⟨h5',h1',h2',hb'⟩:=unhide HS2
  have hg:=unhide hgrow
  have hw1:g7+2 ≤ w1.heap.size:=by have:=hg.size;simp at this;omega
  have hset:=far_set w1 g5 0 (.slice ad2 (k+1) cap2)
  have hall:∀ j,j ≠ g5→j < g5+5→(w1.setCell ⟨g5,0,none⟩ (.slice ad2 (k+1) cap2)).heap[j]? = W2.heap[j]?:=fun j e1 e2 =>
   (hset.rest j (by omega) e1).trans ((hg.block j (by simp;omega) (hNE j e2)).trans (hao _ _ (by omega)))
  refine ⟨hall _ (by omega) (by omega),hall _ (by omega) (by omega),⟨_,by have:=blk_set (j:=0) (v:=.slice ad2 (k+1) cap2) (unhide h5B);simpa using this,?_⟩,(hall _ (by omega) (by omega)).trans h1',(hall _ (by omega) (by omega)).trans h2',?_,?_⟩
  ·have e:strs (SP.take (k+1))=xs ++ [.string bk]:=by rw [unhide HT,unhide HX2];simp [strs]
   rw [e]
   exact ownsRow_keep (unhide hown') (fun g hg' => by
    have:=World.ownsRow.lt (unhide hown') g hg'
    exact hset.rest g this.2 (by omega))
  ·exact ((hb'.alloc (by omega) _).grown hg (by simp;omega) (fun j e => by
    have:=(World.ownsRow.lt (unhide HR2) j e).1
    omega)).setCell (p:=⟨g5,0,none⟩) (Nat.le_refl _) _
  ·have:=hset.size
   omega
 ·intro k W h
  have:=h.2.2.2.2
  omega
 ·intro W h hK
  rw [hD] at hK ⊢
  rw [Nat.min_self,unhide HLN,List.take_length] at h
  obtain ⟨⟨v,h5,hr⟩,_,_,hb,hz⟩:=h
  have c5:=blk_cell (i:=0) h5
  simp at c5
  have HE:=hide (And.intro hr hb)
  clear h5 hr hb hy0 hy1 hy2 hby
  go_wp2
  have hput:∀ j,j ≠ g5+3→(W.putObj (g5+3) (.deferred none)).heap[j]? = W.heap[j]?:=fun j h => World.putObj_heap_other h
  refine ⟨by simp,.inl ⟨_,_,rfl,run_takeDeferred hK,?_⟩⟩
  refine ⟨_,results_tmp rfl _ _ _,_,rfl,ownsRow_monoB (ownsRow_keep (unhide HE).1 (fun g hg => hput g (by have:=(World.ownsRow.lt (unhide HE).1 g hg).1;omega))) (by have:=unhide HG5;omega),?_⟩
  obtain ⟨_,hb⟩:=unhide HE
  rw [← unhide HG5]
  exact ⟨hb.os,hb.tape,hb.output,by rw [World.putObj_size];exact hb.size,fun k hk => (hput k (by omega)).trans (hb.block k hk)⟩
set_option maxRecDepth 100000 in
set_option maxHeartbeats 4000000 in
theorem agSpool_any (H:PaAt w p g a.ticks a.welcome a.fenced free sh st c) (hs:Sound st) (O:OnAg a st.opening g free sh pl) (i:Int) :
  Calls Tryz.prog 47 #[ptrTo p,.int .i64 i] w fun r z => ∃ v,r = .returned v∧z.ownsRow w.heap.size 9 1 v (agSpools a i).length (strs (agSpools a i))∧Below w.heap.size w z:=by
 unfold agSpools
 by_cases h:0 ≤ i∧i < 3
 ·rw [if_pos h]
  obtain ⟨n,rfl⟩:=Int.eq_ofNat_of_zero_le h.1
  exact agSpool_in H hs O n (by omega)
 ·rw [if_neg h]
  have hst:Wire.isStr i=false:=by
   cases hc:Wire.isStr i
   ·rfl
   ·simp [Wire.isStr] at hc;omega
  have hIS:=isStream_any i w
  rw [hst] at hIS
  have HIS:=hide hIS
  clear H O hs hIS hst h
  unfold ptrTo at *
  go_enter Tryz.func47,Tryz.ntmps47
  go_wp2_with (go_at_call 71;refine (unhide HIS).mono ?_;rintro r y ⟨rfl,hyw⟩;obtain rfl:w=y:=hyw.symm)
  go_ret
  exact ⟨_,rfl,World.ownsRow_nil _ _ _ _,Below.refl _ _⟩
end
end Go.Proofs.YtamafdcnbcoegabGreat
namespace Go.Proofs.YtamafdcnbcoegabGreat
open Go.RowKit
def newAg (s:Nat) (fv rv:Value):Array Value:=#[ptrTo s,.int .i64 0,.int .i64 0,.int .i64 0,
 .slice none 0 0,.map none,.slice none 0 0,.map none,.slice none 0 0,.map none,.slice none 0 0,.map none,.slice none 0 0,.map none,.slice none 0 0,.map none,.slice none 0 0,.map none,.slice none 0 0,.map none,.slice none 0 0,.map none,
 fv,.int .i64 0,.bool false,.bool false,rv]
theorem newAg_get (s:Nat) (fv rv:Value):(∀ i,i < 3→(newAg s fv rv)[1+i]? = some (.int .i64 0))∧∀ k,k < 9→(newAg s fv rv)[4+k * 2]? = some (.slice none 0 0)∧(newAg s fv rv)[4+k * 2+1]? = some (.map none):=by
 refine ⟨fun i hi => ?_,fun k hk => ?_⟩
 ·obtain rfl | rfl | rfl:i=0 ∨ i=1 ∨ i=2:=by omega
  all_goals rfl
 ·obtain rfl | rfl | rfl | rfl | rfl | rfl | rfl | rfl | rfl:k=0 ∨ k=1 ∨ k=2 ∨ k=3 ∨ k=4 ∨ k=5 ∨ k=6 ∨ k=7 ∨ k=8:=by omega
  all_goals exact ⟨rfl,rfl⟩
set_option maxHeartbeats 1000000 in
theorem agLast_zero {w:World} {p s:Nat} {fv rv:Value} (hb:w.heap[p]? = some (.cells (newAg s fv rv) 116 (0,0))) (i:Nat) (hi:i < 3) :
  Calls Tryz.prog 79 #[ptrTo p,.int .i64 i] w fun r w' => r = .returned (.int .i64 0)∧∃ n,w' = w.drewN n:=by
 have hL:=lastA_any hb ((newAg_get s fv rv).2 (i * 3) (by omega)).1 (shelfIs_nil w)
 simp only [List.getLast?_nil,Option.isSome_none] at hL
 rw [show 4+i * 3 * 2=4+i * 6 by omega] at hL
 have HL:=hide hL
 have cg:w.cell? ⟨p,1+i,none⟩=some (.int .i64 0):=by rw [blk_cell hb,(newAg_get s fv rv).1 i hi]
 have hi0:(0:Int) ≤ (i:Int):=by omega
 have hi3:(i:Int) < 3:=by omega
 clear hb hL
 unfold ptrTo
 go_enter Tryz.func79,Tryz.ntmps79
 go_wp2_with (go_at_call 122;refine (unhide HL).mono ?_;rintro r y ⟨rfl,q,rfl⟩)
 go_ret
 exact ⟨by first | rfl | simp,q,rfl⟩
set_option maxRecDepth 100000 in
set_option maxHeartbeats 4000000 in
theorem agLoad_zero {w:World} {p s g cap m:Nat} (hp:w.heap[p]? = some (.cells (newAg s (.slice none 0 0) (.slice none 0 0)) 116 (0,0))) (hrow:w.ownsRow 0 150 3 (.slice (some ⟨g,0,none⟩) m cap) m (zRecs m)) (hm:m ≤ 150) :
  Calls Tryz.prog 75 #[ptrTo p,.slice (some ⟨g,0,none⟩) m cap] w fun r w' => r = .returned (.bool true)∧∃ fv,w'.heap[p]? = some (.cells (newAg s fv (.slice none 0 0)) 116 (0,0))∧w'.ownsRow w.heap.size 3 1 fv m (numCells (List.range m))∧Far (fun k => k=p) w w':=by
 have hgp:0 < m→g ≠ p:=fun _ e => by
  have:=(RowO.of_own hrow).ne hp (by decide)
  exact this (by rw [e];rfl)
 have hc:∀ j,j < m→w.cell? ⟨g,j * 3,none⟩=some (.int .i64 0)∧w.cell? ⟨g,j * 3+1,none⟩=some (.int .i64 0)∧w.cell? ⟨g,j * 3+2,none⟩=some (.string ⟨#[]⟩):=by
  intro j hj
  obtain ⟨ad,cap',e,_,_,hcl⟩:=(RowO.of_own hrow).shape
  obtain ⟨g',o',e2,hcl⟩:=hcl (by omega)
  rw [e2] at e
  injection e with e
  injection e with e
  injection e with e e'
  subst e e'
  have:=zRecs_get m j hj
  refine ⟨?_,?_,?_⟩
  ·have h:=hcl (j * 3) (by omega);rw [Nat.zero_add] at h;rw [h];exact this.1
  ·have h:=hcl (j * 3+1) (by omega);rw [Nat.zero_add] at h;rw [h];exact this.2.1
  ·have h:=hcl (j * 3+2) (by omega);rw [Nat.zero_add] at h;rw [h];exact this.2.2
 have HC:=hide hc
 have HGP:=hide hgp
 have hpl:=lt_of_block hp
 have HP:=hide hp
 obtain ⟨i0,hi,hi0,hi1,hi2⟩:=info_parts infoI
 clear hrow hc hgp hp
 unfold ptrTo
 go_enter Tryz.func75,Tryz.ntmps75
 go_wp2
 go_loopw [5,6,12] (fun _ _ i wr => ∃ j:Nat,j ≤ m∧i = .int .i64 j∧∃ fv,wr.heap[p]? = some (.cells (newAg s fv (.slice none 0 0)) 116 (0,0))∧wr.ownsRow w.heap.size 3 1 fv j (numCells (List.range j))∧Far (fun k => k=p) w wr) (fun _ _ i _ => m - (intOf i).toNat)
 case atStart => exact ⟨0,by omega,rfl,_,unhide HP,World.ownsRow_nil _ _ _ _,Far.refl _ _⟩
 case round =>
  obtain ⟨j,hj,rfl,fv,hpb,hfv,hF⟩:=hrel
  clear HP
  by_cases hlt:j < m
  ·obtain ⟨e0,e1,e2⟩:=(unhide HC) j hlt
   have hgl:g < w.heap.size:=World.block_lt_of_cell? _ _ e0
   have hbk:wr.heap[g]? = w.heap[g]?:=hF.rest g hgl ((unhide HGP) (by omega))
   have y0:=(World.cell?_of_block (w:=w) hbk:wr.cell? ⟨g,j * 3,none⟩=_).trans e0
   have y1:=(World.cell?_of_block (w:=w) hbk:wr.cell? ⟨g,j * 3+1,none⟩=_).trans e1
   have y2:=(World.cell?_of_block (w:=w) hbk:wr.cell? ⟨g,j * 3+2,none⟩=_).trans e2
   obtain ⟨ad,cap2,rfl,_⟩:=(own_rowO hfv).shape
   obtain ⟨xs,hxs⟩:∃ xs,xs=numCells (List.range j):=⟨_,rfl⟩
   rw [← hxs] at hfv
   have HXS:=hide hxs
   have HW:=hide (And.intro hpb (And.intro hfv hF))
   have hsz:=hF.size
   clear hbk e0 e1 e2 hpb hfv hF hxs
   obtain ⟨g6,hg6⟩:∃ g6,g6=wr.heap.size:=⟨_,rfl⟩
   have HG6:=hide hg6
   go_upto_region 4 with fail
   rw [← hg6]
   refine wp_world (fun x => x.heap[g6]? = some (.cells #[.int .i64 0,.int .i64 0,.string ⟨#[]⟩] 150 (0,0))∧Below wr.heap.size wr x) ?_ ?_
   ·rw [hg6]
    exact ⟨heap_alloc_new _ _,(Below.refl _ _).alloc (Nat.le_refl _) _⟩
   clear y0 y1 y2 hg6
   rintro x ⟨h6,hbx⟩
   have hpw:=lt_of_block (unhide HW).1
   have hpx:=(hbx.block p hpw).trans (unhide HW).1
   have r0:=blk_cell (i:=0) h6
   have r1:=blk_cell (i:=1) h6
   have q1:=blk_cell (i:=1) hpx
   simp [newAg] at r0 r1 q1
   have HB:=hide hbx
   clear h6 hbx hpx
   go_quiet (fail)
   go_upto_region 5 with fail
   refine wp_world (fun x => Below wr.heap.size wr x) ((unhide HB).trans (below_drewN (Below.refl _ _) _)) ?_
   clear HB r0 r1 q1 x
   intro x hbx
   obtain ⟨hpb,hfv,hF⟩:=unhide HW
   have hpx:=(hbx.block p hpw).trans hpb
   have hfx:x.ownsRow w.heap.size 3 1 (.slice ad j cap2) j xs:=ownsRow_keep hfv (fun g hg => hbx.block g (World.ownsRow.lt hfv g hg).2)
   have hFx:Far (fun k => k=p) w x:=hF.trans (far_below (E:=fun _ => False) hbx) (fun _ _ h => h.elim)
   have q22:=blk_cell (i:=22) hpx
   simp [newAg] at q22
   have hNE:some p ≠ (Value.slice ad j cap2).ownBlock:=fun e => by
    have:=(World.ownsRow.lt hfx p e.symm).1
    omega
   have hpx2:∀ ob,(x.alloc ob).heap[p]? = some (.cells (newAg s (.slice ad j cap2) (.slice none 0 0)) 116 (0,0)):=fun ob => (hao _ _ (lt_of_block hpx)).trans hpx
   have hxs:=hFx.size
   have hpxl:=lt_of_block hpx
   have HX:=hide (And.intro hpx (And.intro hfx hFx))
   have HNC:=cell_one_new x (.int .i64 j) 3
   clear hpb hfv hF hbx hpx hfx hFx HW
   go_wp2_with (at_builtin;go_loud (refine wpList_append_own _ rfl (.tmp 31) (.tmp 33) 101 rfl w.heap.size 3 i0 (.int .i64 0) 1 8 Tryz.underlying101 hi hi0 hi1 hi2 rfl (by decide) _ j xs rfl ((unhide HX).2.1.alloc _) ⟨x.heap.size,0,none⟩ 1 1 [.int .i64 j] rfl rfl HNC (by simp [Value.oneCell']) (by unfold maxLen;omega) (by omega) (by simp;omega) ?_;intro v' w1 hown' hgrow _;obtain ⟨ad2,cap3,hv2,_⟩:=(own_rowO hown').shape;subst hv2;have h5B:=(hgrow.block p (by simp;omega) hNE).trans (hpx2 _);have d5':=blk_cell (i:=22) h5B;have f5':=blk_free (i:=22) h5B;simp [newAg] at d5';replace h5B:=hide h5B;replace hown':=hide hown';replace hgrow:=hide hgrow))
   obtain ⟨hpx,hfx,hFx⟩:=unhide HX
   have hg:=unhide hgrow
   have hset:=far_set w1 p 22 (.slice ad2 (j+1) cap3)
   refine ⟨⟨j+1,by omega,by go_num,_,blk_set (j:=22) (v:=.slice ad2 (j+1) cap3) (unhide h5B),?_,?_⟩,by simp [intOf];omega⟩
   ·have e:numCells (List.range (j+1))=xs ++ [.int .i64 j]:=by rw [unhide HXS,List.range_succ];simp [numCells]
    rw [e]
    exact ownsRow_keep (unhide hown') (fun g' hg' => by
     have:=World.ownsRow.lt (unhide hown') g' hg'
     exact hset.rest g' this.2 (by omega))
   ·exact ((hFx.trans (far_below (E:=fun _ => False) ((Below.refl _ _).alloc (Nat.le_refl _) _)) (fun _ _ h => h.elim)).trans (far_grown hg) (fun k hk e => by
     have:=(World.ownsRow.lt hfx k e).1
     omega)).trans hset (fun _ _ h => h)
  ·have ejm:j=m:=by omega
   rw [ejm] at hfv
   obtain ⟨W0,hW0⟩:∃ W0,W0=wr:=⟨_,rfl⟩
   rw [← hW0] at hpb hfv hF
   have HW0:=hide hW0
   clear hW0
   have hpw:=lt_of_block hpb
   have HW:=hide (And.intro hpb (And.intro hfv hF))
   have hjn:¬ (j:Int) < (m:Int):=by omega
   clear hpb hfv hF ejm
   go_wp2
   go_loopw [8,9,57] (fun _ _ i wr2 => ∃ t:Nat,t ≤ 3∧i = .int .i64 t∧Below W0.heap.size W0 wr2) (fun _ _ i _ => 3 - (intOf i).toNat)
   case atStart => exact ⟨0,by omega,rfl,by rw [unhide HW0];exact Below.refl _ _⟩
   case round =>
    obtain ⟨t,ht,rfl,hb⟩:=hrel
    by_cases ht3:t < 3
    ·have hpb:=(hb.block p hpw).trans (unhide HW).1
     have HL:=hide (agLast_zero hpb t ht3)
     have HB:=hide hb
     clear hpb hb
     unfold ptrTo at *
     go_upto_region 15 with (go_at_call 79;refine (unhide HL).mono ?_;rintro r y ⟨rfl,q,rfl⟩)
     refine wp_world (fun x => Below W0.heap.size W0 x) ((unhide HB).trans (below_drewN (Below.refl _ _) _)) ?_
     clear HB HL
     intro x hbx
     have hpb:=(hbx.block p hpw).trans (unhide HW).1
     have hLen:∀ n,Calls Tryz.prog 110 #[.pointer (some ⟨p,4+t * 3 * 2,none⟩)] (x.drewN n) fun e w' => e = .returned (.int .i64 0)∧w' = x.drewN n:=fun n => lenA_any (w:=x.drewN n) (l:=[]) hpb ((newAg_get _ _ _).2 (t * 3) (by omega)).1 (shelfIs_nil _)
     rw [show 4+t * 3 * 2=4+t * 6 by omega] at hLen
     have HLen:=fun n => hide (hLen n)
     have c1:x.cell? ⟨p,1+t,none⟩=some (.int .i64 0):=by rw [blk_cell hpb,(newAg_get _ _ _).1 t ht3]
     have HB:=hide hbx
     have ht0:(0:Int) ≤ (t:Int):=by omega
     have ht3':(t:Int) < 3:=by omega
     clear hpb hbx hLen
     go_quiet (first | (go_at_call 110;exact Calls.quiet_of_same (unhide (HLen _))))
     go_wp2
     exact ⟨⟨t+1,by omega,by go_num,(unhide HB).trans (below_drewN (Below.refl _ _) _)⟩,by simp [intOf];omega⟩
    ·have e3:t=3:=by omega
     subst e3
     go_wp2
     go_ret
     obtain ⟨hpb,hfv,hF⟩:=unhide HW
     exact ⟨rfl,_,(hb.block p hpw).trans hpb,ownsRow_keep hfv (fun g' hg' => hb.block g' (World.ownsRow.lt hfv g' hg').2),hF.trans (far_below (E:=fun _ => False) hb) (fun _ _ h => h.elim)⟩
end Go.Proofs.YtamafdcnbcoegabGreat
namespace Go.Proofs.YtamafdcnbcoegabGreat
open Go.RowKit
theorem paAt_new {w:World} {p s dp:Nat} {fv dlv duv rv:Value} {st:Mod.Stv} (hb:w.heap[p]? = some (.cells (newAg s fv rv) 116 (0,0))) (hf:RowO w 3 1 fv 24 (numCells (List.range 24))) (hs:StAt w s dp st dlv duv) (hl:st.dk.bytes.length=1664) (hr:RowO w 134 2 rv 3 (agRules p)) :
  PaAt w p (fun _ => 0) 0 false false (List.range 24) (fun _ => []) st ⟨newAg s fv rv,s,dp,fun _ => .slice none 0 0,fun _ => .map none,fv,rv,dlv,duv⟩:=by
 refine ⟨⟨hb,rfl,rfl,(newAg_get s fv rv).1,fun k hk => ((newAg_get s fv rv).2 k hk).1,fun k hk => ((newAg_get s fv rv).2 k hk).2,rfl,rfl,rfl,rfl,rfl,hf,fun k hk => shelfIs_nil _,fun k hk j hj => ?_,fun j k _ _ _ b hb => ?_⟩,hs,hr,hl⟩
 ·rcases hj with h | h <;> cases h
 ·rcases hb with h | h <;> cases h
def ag0:Mod.Ag:={ epoch:=1,ticks:=0,welcome:=false,fenced:=false,fl:=fun _ => { base:=0,kept:=[],held:=[] } }
theorem onAg_zero:OnAg ag0 1 (fun _ => 0) (List.range 24) (fun _ => []) (fun _ => []):=by
 refine ⟨rfl,fun _ _ => rfl,fun _ _ => rfl,fun _ _ => rfl,fun i hi n => ?_,(fun i hi x hx => by cases hx),fun _ _ _ => rfl,(fun i hi x hx => by cases hx),fun _ _ => by simp,by decide,by decide,rfl⟩
 unfold sentF
 show none=_
 split
 ·rfl
 ·simp [ag0]
set_option maxRecDepth 100000 in
set_option maxHeartbeats 4000000 in
theorem agOpen_zero (w:World) (v:Value) (m:Nat) (hm:m=26) (hat:BytesAt w v (List.replicate (m * 64) 0)) :
  Calls Tryz.prog 49 #[v] w fun r w' => ∃ p st c,r = .returned (.tuple #[ptrTo p,.int .i64 0])∧PaAt w' p (fun _ => 0) 0 false false (List.range 24) (fun _ => []) st c∧Sound st∧st.opening=1∧Below w.heap.size w w' ∧ ∀ k,PaU p c k→w.heap.size ≤ k:=by
 have hSO:=hide (storeOpen_zero w v m hat (by omega) (by omega))
 obtain ⟨ad,cap,rfl,hl1,hl2,_⟩:=hat
 rw [List.length_replicate] at hl1 hl2 hSO ⊢
 obtain ⟨st,hst⟩:∃ st,st=((⟨1,0,0,⟨List.replicate (m * 64) 0,0,false⟩⟩:Mod.Stv).putNumbers 0 0 0).2:=⟨_,rfl⟩
 rw [← hst] at hSO
 have hsound:Sound st:=by rw [hst];exact (sound_num (st:=⟨1,0,0,⟨List.replicate (m * 64) 0,0,false⟩⟩) ⟨rfl,rfl⟩ 0 0 0).2
 have hlen:st.dk.bytes.length=1664:=by
  rw [hst]
  unfold Mod.Stv.putNumbers Mod.Dk.put
  simp only
  rw [if_neg (by simp),if_neg (by simp)]
  simp only
  rw [Mod.length_setSec (Mod.length_sealB _ _ (by rw [Mod.length_headIn];omega)) (by simp;omega)]
  simp;omega
 have hopn:st.opening=1:=by
  rw [hst]
  first
   | rfl
   | (unfold Mod.Stv.putNumbers Mod.Dk.put; simp)
 have hm64:m * 64=1664:=by omega
 have hm2:m - 2=24:=by omega
 rw [hm64,hm2] at hSO
 rw [hm64]
 have HS:=hide (And.intro hsound (And.intro hlen hopn))
 clear hst hsound hlen hopn hm64 hm2 hl1 hl2 hm
 unfold ptrTo at *
 go_enter Tryz.func49,Tryz.ntmps49
 go_upto_region 7 with (go_at_call 74;refine (unhide hSO).mono ?_;rintro r y ⟨s,dp,lv,uv,rv,rfl,hST,hSU,hrow,hb⟩;obtain ⟨ra,rc,rfl,_,_,hra⟩:=(RowO.of_own (ownsRow_monoB hrow (Nat.zero_le _))).shape)
 obtain ⟨gr,og,rfl,_⟩:=hra (by omega)
 have hog:og=0:=by
  rcases hrow with ⟨_,⟨h,_⟩ | ⟨g',cap',cur',h,_⟩⟩
  ·cases h
  ·injection h with h;injection h with h;injection h
 subst hog
 clear hra
 obtain ⟨g5,hg5⟩:∃ g5,g5=y.heap.size:=⟨_,rfl⟩
 have HG5:=hide hg5
 rw [← hg5]
 have hgw:w.heap.size ≤ g5:=by have:=hb.size;omega
 clear hg5
 refine wp_world (fun x => x.heap[g5]? = some (.cells #[.int .i64 0,.int .i64 0,.int .i64 0,.slice (some ⟨gr,0,none⟩) 24 rc] 143 (0,0))∧x.heap[g5+1]? = some (.cells (newAg s (.slice none 0 0) (.slice none 0 0)) 116 (0,0))∧Below g5 y x) ?_ ?_
 ·rw [unhide HG5]
  exact alloc2 _ _ _
 rintro x ⟨h5,h6,hbx⟩
 have y3:=blk_cell (i:=3) h5
 simp at y3
 have hxx:=lt_of_block h6
 have hrx:=ownsRow_keepB (ownsRow_monoB hrow (Nat.zero_le _)) (fun g hg => by have:=(World.ownsRow.lt hrow g hg).2;exact hbx.block g (by rw [unhide HG5];exact this))
 have hLD:=hide (agLoad_zero h6 hrx (by omega))
 have hSTx:=hide (hST.far (far_below (E:=fun _ => False) (by rw [← unhide HG5];exact hbx)) (fun _ _ h => h))
 have HSU:=hide hSU
 have HB:=hide (hb.trans (hbx.mono hgw))
 have H6:=hide h6
 clear hST hSU hrow hrx hb hbx h5 h6 HG5
 unfold ptrTo at *
 go_upto_region 9 with (go_at_call 75;refine (unhide hLD).mono ?_;rintro r z ⟨rfl,fv,hp6,hfv,hF⟩)
 have q26:z.cell? ⟨g5+1,26,none⟩=some (.slice none 0 0):=by rw [blk_cell hp6];rfl
 have hpz:g5+1 < z.heap.size:=lt_of_block hp6
 have HP6:=hide hp6
 have HF:=hide (And.intro hfv hF)
 have hca:∀ o,(z.alloc o).cell? ⟨g5+1,26,none⟩=some (.slice none 0 0):=fun o => (World.cell?_alloc_lt z _ ⟨g5+1,26,none⟩ hpz).trans q26
 have hfa:∀ o,(z.alloc o).frozen? ⟨g5+1,26,none⟩=false:=fun o => blk_free (i:=26) ((hao _ _ hpz).trans hp6)
 have hzg:¬ g5+1=z.heap.size:=by omega
 clear hp6 q26 hfv hF
 go_wp2
 go_ret2
 have hp6:=unhide HP6
 obtain ⟨hfv,hF⟩:=unhide HF
 have hsx:=unhide hSTx
 have hnS:¬ StU s dp lv uv (g5+1):=by
  rintro (h | h)
  ·have h1:=hsx.blk
   rw [← h,unhide H6] at h1
   injection h1 with h1
   injection h1 with _ h1 _
   exact absurd h1 (by decide)
  ·exact dk_ne hsx.dk (unhide H6) (by decide) (by decide) (by decide) h
 obtain ⟨R,hR⟩:∃ R,R=Obj.cells (agRules (g5+1)).toArray 134 (0,0):=⟨_,rfl⟩
 obtain ⟨z2,hz2⟩:∃ z2,z2=z.setCell ⟨g5+1,26,none⟩ (.slice (some ⟨z.heap.size,0,none⟩) 3 3):=⟨_,rfl⟩
 have hsz2:z2.heap.size=z.heap.size:=by rw [hz2,World.size_setCell]
 have hset:Far (fun k => k=g5+1) z z2:=by rw [hz2];exact far_set _ _ _ _
 have hba:Below z2.heap.size z2 (z2.alloc R):=(Below.refl _ _).alloc (Nat.le_refl _) _
 have hS2:StAt (z2.alloc R) s dp st lv uv :=
  ((hsx.far hF (fun k hk e => hnS (by rw [← e];exact hk))).far hset (fun k hk e => hnS (by rw [← e];exact hk))).far (far_below (E:=fun _ => False) hba) (fun _ _ h => h)
 have hb2:(z2.alloc R).heap[g5+1]? = some (.cells (newAg s fv (.slice (some ⟨z.heap.size,0,none⟩) 3 3)) 116 (0,0)):=by
  rw [hba.block _ (by omega),hz2]
  exact blk_set (j:=26) (v:=.slice (some ⟨z.heap.size,0,none⟩) 3 3) hp6
 have hf2:RowO (z2.alloc R) 3 1 fv 24 (numCells (List.range 24)) :=
  ((own_rowO hfv).far hset (fun g hg e => by have:=(World.ownsRow.lt hfv g hg).1;omega)).far (far_below (E:=fun _ => False) hba) (fun _ _ h => h)
 have hr2:RowO (z2.alloc R) 134 2 (.slice (some ⟨z.heap.size,0,none⟩) 3 3) 3 (agRules (g5+1)):=by
  refine ⟨by simp [agRules],.inr ⟨z.heap.size,0,3,(agRules (g5+1)).toArray,rfl,?_,by omega,by unfold maxLen;omega,by simp [agRules],by simp [agRules]⟩⟩
  rw [← hsz2,heap_alloc_new,hR]
 have hPA:=paAt_new hb2 hf2 hS2 (unhide HS).2.1 hr2
 have hR2:R=Obj.cells #[.int .i64 2,.func (.func 76) #[.pointer (some ⟨g5+1,0,none⟩)] #[],.int .i64 4,.func (.func 77) #[.pointer (some ⟨g5+1,0,none⟩)] #[],.int .i64 5,.func (.func 78) #[.pointer (some ⟨g5+1,0,none⟩)] #[]] 134 (0,0):=by rw [hR];rfl
 have hwx:=(unhide HB).size
 have hxz:=hF.size
 have hFw:Below w.heap.size w z:=⟨hF.os.trans (unhide HB).os,hF.tape.trans (unhide HB).tape,hF.output.trans (unhide HB).output,by omega,fun k hk => (hF.rest k (by omega) (by omega)).trans ((unhide HB).block k hk)⟩
 subst hR2
 subst hz2
 refine ⟨g5+1,st,_,rfl,hPA,(unhide HS).1,(unhide HS).2.2,?_,?_⟩
 ·exact (hFw.setCell (p:=⟨g5+1,26,none⟩) (by show w.heap.size ≤ g5+1;omega) _).alloc (by rw [World.size_setCell];omega) _
 ·rintro k ((h | h | ⟨i,hi,h⟩) | h | h)
  ·omega
  ·have:=(World.ownsRow.lt hfv k h).1
   omega
  ·rcases h with h | h <;> cases h
  ·exact (unhide HSU) k h
  ·have h2:some z.heap.size=some k:=h
   injection h2 with h2
   omega
end Go.Proofs.YtamafdcnbcoegabGreat
namespace Go.Proofs.YtamafdcnbcoegabGreat
open Go.RowKit
theorem onAg_sent {g:Nat→Nat} {free:List Nat} {sh:Nat→List (Nat × Value)} {a:Mod.Ag} {op:Nat} {pl:Nat→List Nat} (O:OnAg a op g free sh pl) {i:Nat} (hi:i < 3) {k:Nat} {x:ByteArray × Nat} (hk:(a.fl i).kept[k]? = some x) {t:Nat} (ht:t ≠ 0) :
  OnAg { a with fl:=Mod.upd a.fl i { a.fl i with kept:=(a.fl i).kept.set k (x.1,t) } } op g free (fun j => if j=i * 3+1 then putL (sh (i * 3+1)) ((a.fl i).base+1+k) (recI t) else sh j) pl:=by
 obtain ⟨f2,hf2⟩:∃ f2,f2=({ a.fl i with kept:=(a.fl i).kept.set k (x.1,t) }:Mod.Flow):=⟨_,rfl⟩
 have hb:f2.base=(a.fl i).base:=by rw [hf2]
 have hh:f2.held=(a.fl i).held:=by rw [hf2]
 have hkp:f2.kept=(a.fl i).kept.set k (x.1,t):=by rw [hf2]
 have hl:f2.kept.length=(a.fl i).kept.length:=by rw [hkp];simp
 have hkl:k < (a.fl i).kept.length:=(List.getElem?_eq_some_iff.1 hk).1
 rw [← hf2]
 clear hf2
 have hfl:∀ j,Mod.upd a.fl i f2 j=if j=i then f2 else a.fl j:=fun j => rfl
 refine ⟨O.ep,fun j hj => ?_,fun j hj => ?_,fun j hj => ?_,fun j hj n => ?_,fun j hj => ?_,fun j hj n => ?_,fun j hj => ?_,fun j hj => ?_,O.nd,O.lt,?_⟩
 ·show g j=(Mod.upd a.fl i f2 j).base
  rw [hfl]
  by_cases e:j=i
  ·rw [if_pos e,hb,e];exact O.bs i hi
  ·rw [if_neg e];exact O.bs j hj
 ·show (pl j).length=(Mod.upd a.fl i f2 j).kept.length
  rw [hfl]
  by_cases e:j=i
  ·rw [if_pos e,hl,e];exact O.pn i hi
  ·rw [if_neg e];exact O.pn j hj
 ·show (if j * 3=i * 3+1 then _ else sh (j * 3))=keptL (Mod.upd a.fl i f2 j).base (Mod.upd a.fl i f2 j).kept (pl j)
  rw [if_neg (by omega),hfl]
  by_cases e:j=i
  ·rw [if_pos e,hb,e,O.kp i hi]
   refine keptL_same _ _ _ _ ?_
   rw [hkp,List.map_set]
   refine (List.ext_getElem? fun n => ?_).symm
   rw [List.getElem?_set]
   by_cases en:k=n
   ·subst en
    rw [if_pos rfl,if_pos (by simpa using hkl),List.getElem?_map,hk]
    rfl
   ·rw [if_neg en]
  ·rw [if_neg e];exact O.kp j hj
 ·show look (if j * 3+1=i * 3+1 then _ else sh (j * 3+1)) _=sentF (Mod.upd a.fl i f2 j) n
  rw [hfl]
  by_cases e:j=i
  ·subst e
   rw [if_pos rfl,if_pos rfl,look_putL]
   have h0:=O.sn j hj n
   unfold putF
   by_cases en:n=(a.fl j).base+1+k
   ·rw [if_pos (by omega)]
    unfold sentF
    rw [if_neg (by omega),hb,hkp,show n - (a.fl j).base - 1=k by omega,List.getElem?_set,if_pos rfl,if_pos hkl]
    show _=if t=0 then none else some (recI t)
    rw [if_neg ht]
   ·rw [if_neg (by omega),h0]
    unfold sentF
    rw [hb]
    by_cases hn:n ≤ (a.fl j).base
    ·rw [if_pos hn,if_pos hn]
    ·rw [if_neg hn,if_neg hn,hkp,List.getElem?_set,if_neg (by omega)]
  ·rw [if_neg (by omega),if_neg e];exact O.sn j hj n
 ·show AreI (if j * 3+1=i * 3+1 then _ else sh (j * 3+1))
  by_cases e:j=i
  ·subst e
   rw [if_pos rfl]
   intro y hy
   rcases mem_putL hy with rfl | hy
   ·exact ⟨t,rfl⟩
   ·exact O.si j hj y hy
  ·rw [if_neg (by omega)];exact O.si j hj
 ·show (look (if j * 3+2=i * 3+1 then _ else sh (j * 3+2)) _).isSome=(Mod.upd a.fl i f2 j).held.contains n
  rw [if_neg (by omega),hfl]
  by_cases e:j=i
  ·rw [if_pos e,hh,e];exact O.hd i hi n
  ·rw [if_neg e];exact O.hd j hj n
 ·show AreU (if j * 3+2=i * 3+1 then _ else sh (j * 3+2))
  rw [if_neg (by omega)];exact O.hu j hj
 ·show (if j * 3+2=i * 3+1 then _ else sh (j * 3+2)).length ≤ 3
  rw [if_neg (by omega)];exact O.hl j hj
 ·have h:=O.sum
  have h2:=room_upd (a:=a) hi f2
  omega
section
variable {w x:World} {p:Nat} {g:Nat→Nat} {tk:Nat} {wel fen:Bool} {free:List Nat} {sh sh2:Nat→List (Nat × Value)} {st:Mod.Stv} {c c2:Av}
theorem paAt_nv {i:Nat} {l':List (Nat × Value)} (H:PaAt w p g tk wel fen free sh st c) (h:ShStep w x p (4+i * 2) 116 c.arr (c.nv i) (c.mv i) l')
  (H2:PaAt x p g tk wel fen free sh2 st c2):∀ j,j < 9→j ≠ i→c2.nv j=c.nv j∧c2.mv j=c.mv j:=by
 obtain ⟨⟨nv',mv',S,_,_⟩,_⟩:=h
 have hb:=S.blk
 rw [H2.ks.blk] at hb
 injection hb with hb
 injection hb with hb _ _
 intro j hj hne
 have hget:∀ q,q ≠ 4+i * 2→q ≠ 4+i * 2+1→c2.arr[q]? = c.arr[q]?:=fun q h1 h2 => by
  rw [hb,Array.getElem?_setIfInBounds_ne (by omega),Array.getElem?_setIfInBounds_ne (by omega)]
 have e1:=H2.ks.an j hj
 have e2:=H2.ks.am j hj
 rw [hget _ (by omega) (by omega),H.ks.an j hj] at e1
 rw [hget _ (by omega) (by omega),H.ks.am j hj] at e2
 exact ⟨by injection e1 with e1;exact e1.symm,by injection e2 with e2;exact e2.symm⟩
end
end Go.Proofs.YtamafdcnbcoegabGreat
namespace Go.Proofs.YtamafdcnbcoegabGreat
open Go.RowKit
section
variable {w:World} {p:Nat} {g:Nat→Nat} {free:List Nat} {sh:Nat→List (Nat × Value)} {st:Mod.Stv} {c:Av} {a:Mod.Ag} {pl:Nat→List Nat}
theorem hello_proper (n:Nat) (hn:n ≤ 2147483647):Wire.proper 1 n 0 0 ⟨#[]⟩=true:=by
 simp [Wire.proper,Wire.isNum,ByteArray.size];omega
set_option maxRecDepth 100000 in
set_option maxHeartbeats 4000000 in
theorem agTick_fenced (H:PaAt w p g a.ticks a.welcome a.fenced free sh st c) (hs:Sound st) (O:OnAg a st.opening g free sh pl) (htk:a.ticks ≤ 1000000000) (hf:a.fenced=true) :
  Calls Tryz.prog 43 #[ptrTo p] w fun r z => r = .returned (.slice none 0 0)∧AgIs w z p a.tick.1 c:=by
 have ht:a.tick.1 = { a with ticks:=a.ticks+1 }:=by unfold Mod.Ag.tick;rw [if_pos hf]
 rw [ht]
 have c23:w.cell? ⟨p,23,none⟩=some (.int .i64 a.ticks):=by rw [blk_cell H.ks.blk,H.ks.at']
 have f23:w.frozen? ⟨p,23,none⟩=false:=blk_free (i:=23) H.ks.blk
 obtain ⟨t2,ht2⟩:∃ t2,t2=a.ticks+1:=⟨_,rfl⟩
 rw [← ht2]
 have HT:=hide ht2
 have HH:=hide (And.intro H (And.intro hs O))
 clear H O hs ht ht2
 unfold ptrTo at *
 go_enter Tryz.func43,Tryz.ntmps43
 go_upto_region 2 with fail
 refine wp_world (fun x => PaStep w x p g t2 a.welcome a.fenced free sh st c) ?_ ?_
 ·rw [show ((a.ticks:Int)+1)=((t2:Nat):Int) by have:=unhide HT;omega]
  exact paStep_tick (unhide HH).1 t2
 clear c23 f23
 rintro x hst
 obtain ⟨c1,K1,F1,N1,s1,s2⟩:=hst
 have d25:x.cell? ⟨p,25,none⟩=some (.bool true):=by rw [blk_cell K1.ks.blk,K1.ks.ae,hf]
 have HS:=hide (⟨c1,K1,F1,N1,s1,s2⟩:PaStep w x p g t2 a.welcome a.fenced free sh st c)
 clear K1 F1 N1 s1 s2
 go_wp2
 go_ret
 exact ⟨rfl,g,free,sh,pl,st,unhide HS,(unhide HH).2.1,(unhide HH).2.2.flags t2 a.welcome a.fenced⟩
set_option maxRecDepth 100000 in
set_option maxHeartbeats 4000000 in
theorem agTick_hello (H:PaAt w p g a.ticks a.welcome a.fenced free sh st c) (hs:Sound st) (O:OnAg a st.opening g free sh pl) (htk:a.ticks ≤ 1000000000) (hep:a.epoch ≤ 2147483647) (hf:a.fenced=false) (hw:a.welcome=false) :
  Calls Tryz.prog 43 #[ptrTo p] w fun r z => ∃ lv fs x,r = .returned lv∧AgIs w x p a.tick.1 c∧Below x.heap.size x z∧FramesOut x.heap.size z lv fs (a.tick.2.map fun l => ⟨l.toArray⟩) (fun _ => False):=by
 have ht:a.tick=({ a with ticks:=a.ticks+1 },[Wire.bytes 1 a.epoch 0 0 []]):=by unfold Mod.Ag.tick;rw [if_neg (by rw [hf];decide),if_pos hw]
 rw [ht]
 simp only [List.map_cons,List.map_nil]
 have c23:w.cell? ⟨p,23,none⟩=some (.int .i64 a.ticks):=by rw [blk_cell H.ks.blk,H.ks.at']
 have f23:w.frozen? ⟨p,23,none⟩=false:=blk_free (i:=23) H.ks.blk
 obtain ⟨t2,ht2⟩:∃ t2,t2=a.ticks+1:=⟨_,rfl⟩
 rw [← ht2]
 have HT:=hide ht2
 obtain ⟨ep,hep2⟩:∃ ep,ep=a.epoch:=⟨_,rfl⟩
 have hop:st.opening=ep:=by rw [hep2];exact O.ep
 rw [← hep2] at hep ⊢
 have hFB:=fun y => hide (frameBytes_any 1 ep 0 0 ⟨#[]⟩ y (hello_proper ep hep))
 have HH:=hide (And.intro H (And.intro hs O))
 have hsd:=hs.1
 have HEQ:=hide hep2
 clear H O hs ht ht2 hep2
 unfold ptrTo at *
 go_enter Tryz.func43,Tryz.ntmps43
 go_upto_region 2 with fail
 refine wp_world (fun x => PaStep w x p g t2 a.welcome a.fenced free sh st c) ?_ ?_
 ·rw [show ((a.ticks:Int)+1)=((t2:Nat):Int) by have:=unhide HT;omega]
  exact paStep_tick (unhide HH).1 t2
 clear c23 f23
 rintro x hst
 obtain ⟨c1,K1,F1,N1,s1,s2⟩:=hst
 have d25:x.cell? ⟨p,25,none⟩=some (.bool false):=by rw [blk_cell K1.ks.blk,K1.ks.ae,hf]
 have d24:x.cell? ⟨p,24,none⟩=some (.bool false):=by rw [blk_cell K1.ks.blk,K1.ks.aw,hw]
 have d0:x.cell? ⟨p,0,none⟩=some (.pointer (some ⟨c1.s,0,none⟩)):=by rw [blk_cell K1.ks.blk,K1.ks.a0];rfl
 have hID:=storeIsDead_any K1.stt
 rw [hsd] at hID
 have HID:=hide hID
 have hEP:=agEpoch_any K1
 rw [hop] at hEP
 have HEP:=hide hEP
 have HS:=hide (⟨c1,K1,F1,N1,s1,s2⟩:PaStep w x p g t2 a.welcome a.fenced free sh st c)
 clear K1 F1 N1 s1 s2 hID hEP
 unfold ptrTo at *
 go_wp2_with (first | (go_at_call 66;refine (unhide HID).mono ?_;rintro r y ⟨rfl,hyw⟩;obtain rfl:x=y:=hyw.symm) | (go_at_call 52;refine (unhide HEP).mono ?_;rintro r y ⟨rfl,hyw⟩;obtain rfl:x=y:=hyw.symm) | (go_at_call 67;refine (unhide (hFB _)).mono ?_;rintro r v ⟨bv',rfl,hown,hb2⟩;obtain ⟨ad,cap,rfl,_⟩:=hown.shape;replace hown:=hide hown;replace hb2:=hide hb2))
 go_ret
 have hbv:=unhide hb2
 have ho:=unhide hown
 have e:=unhide HEQ
 subst e
 have hvx:x.heap.size ≤ v.heap.size:=by have:=hbv.size;first | omega | (simp at this;omega)
 exact ⟨_,_,x,rfl,⟨g,free,sh,pl,st,unhide HS,(unhide HH).2.1,(unhide HH).2.2.flags t2 a.welcome a.fenced⟩,(by first | exact hbv.alloc hbv.size _ | exact (((Below.refl _ x).alloc (Nat.le_refl _) _).trans (hbv.mono (by simp))).alloc hvx _),framesOut_one (World.ownsRow.alloc (ho.mono (by omega)) _) hvx (heap_alloc_new _ _)⟩
end
end Go.Proofs.YtamafdcnbcoegabGreat
namespace Go.Proofs.YtamafdcnbcoegabGreat
open Go.RowKit
def sentAg (a:Mod.Ag) (i tk k:Nat):Mod.Ag:={ a with fl:=Mod.upd a.fl i { a.fl i with kept:=(Mod.sendTo a.epoch i (a.fl i) tk k).1 } }
theorem sentAg_fl (a:Mod.Ag) (i tk k:Nat):(sentAg a i tk k).fl i = { a.fl i with kept:=(Mod.sendTo a.epoch i (a.fl i) tk k).1 }:=by
 unfold sentAg Mod.upd
 simp
theorem sentAg_zero (a:Mod.Ag) (i tk:Nat):sentAg a i tk 0=a:=by
 unfold sentAg
 have:Mod.upd a.fl i { a.fl i with kept:=(Mod.sendTo a.epoch i (a.fl i) tk 0).1 } = a.fl:=by
  funext t
  unfold Mod.upd
  split
  ·rename_i e;rw [e];rfl
  ·rfl
 rw [this]
theorem sentAg_skip {a:Mod.Ag} {i tk k:Nat} (hk:k < (a.fl i).kept.length) (hd:Mod.due (a.fl i) tk k (a.fl i).kept[k].2=false):sentAg a i tk (k+1)=sentAg a i tk k:=by
 unfold sentAg
 rw [sendTo_skip hk hd]
theorem sentAg_get {a:Mod.Ag} {i tk k:Nat} (hk:k < (a.fl i).kept.length):((sentAg a i tk k).fl i).kept[k]? = some (a.fl i).kept[k]:=by
 rw [sentAg_fl]
 show (Mod.sendTo a.epoch i (a.fl i) tk k).1[k]? = _
 rw [sendTo_get _ _ _ _ _ _ (Nat.le_refl _),List.getElem?_eq_getElem hk]
theorem sentAg_len (a:Mod.Ag) (i tk k:Nat):((sentAg a i tk k).fl i).kept.length=(a.fl i).kept.length:=by
 rw [sentAg_fl]
 exact sendTo_len _ _ _ _ _
theorem sentAg_due (a:Mod.Ag) (i tk k t j s:Nat):Mod.due ((sentAg a i tk k).fl i) t j s=Mod.due (a.fl i) t j s:=by
 rw [sentAg_fl]
 rfl
theorem sentAg_base (a:Mod.Ag) (i tk k:Nat):((sentAg a i tk k).fl i).base=(a.fl i).base:=by rw [sentAg_fl]
theorem onAg_sentAg {g:Nat→Nat} {free:List Nat} {sh:Nat→List (Nat × Value)} {a:Mod.Ag} {op:Nat} {pl:Nat→List Nat} {i tk k:Nat} (O:OnAg (sentAg a i tk k) op g free sh pl) (hi:i < 3) (hk:k < (a.fl i).kept.length) (hd:Mod.due (a.fl i) tk k (a.fl i).kept[k].2=true) (ht:tk ≠ 0) :
  OnAg (sentAg a i tk (k+1)) op g free (fun j => if j=i * 3+1 then putL (sh (i * 3+1)) ((a.fl i).base+1+k) (recI tk) else sh j) pl:=by
 have h:=onAg_sent O hi (sentAg_get (tk:=tk) hk) ht
 rw [sentAg_base] at h
 have e:sentAg a i tk (k+1) = { sentAg a i tk k with fl:=Mod.upd (sentAg a i tk k).fl i { (sentAg a i tk k).fl i with kept:=((sentAg a i tk k).fl i).kept.set k ((a.fl i).kept[k].1,tk) } }:=by
  rw [sentAg_fl]
  unfold sentAg
  rw [sendTo_send hk hd]
  have:∀ (f:Nat→Mod.Flow) (x y:Mod.Flow),Mod.upd (Mod.upd f i x) i y=Mod.upd f i y:=fun f x y => by
   funext t
   unfold Mod.upd
   split <;> rfl
  simp only [this]
 rw [e]
 exact h
theorem sentAg_four {a:Mod.Ag} {i tk k:Nat} (h:k=min 4 (a.fl i).kept.length):sentAg a i tk 4=sentAg a i tk k:=by
 unfold sentAg
 rw [sendTo_four (i:=k) (by omega) (by omega)]
def tickAg (a:Mod.Ag) (t s:Nat):Mod.Ag:={ a with ticks:=t,fl:=Mod.sendFl a.epoch t a.fl s }
theorem tickAg_fl (a:Mod.Ag) (t s:Nat):(tickAg a t s).fl s=a.fl s:=by
 unfold tickAg Mod.sendFl
 simp
theorem tickAg_succ (a:Mod.Ag) (t s:Nat):sentAg (tickAg a t s) s t 4=tickAg a t (s+1):=by
 unfold sentAg
 rw [tickAg_fl]
 have:Mod.upd (tickAg a t s).fl s { a.fl s with kept:=(Mod.sendTo (tickAg a t s).epoch s (a.fl s) t 4).1 } = Mod.sendFl a.epoch t a.fl (s+1):=by
  funext j
  unfold Mod.upd tickAg Mod.sendFl
  simp only
  by_cases e:j=s
  ·subst e
   rw [if_pos rfl,if_pos (by omega)]
  ·rw [if_neg e]
   by_cases h:j < s
   ·rw [if_pos h,if_pos (by omega)]
   ·rw [if_neg h,if_neg (by omega)]
 rw [this]
 rfl
theorem tickAg_zero (a:Mod.Ag) (t:Nat):tickAg a t 0 = { a with ticks:=t }:=by
 unfold tickAg
 have:Mod.sendFl a.epoch t a.fl 0=a.fl:=by
  funext j
  unfold Mod.sendFl
  rw [if_neg (by omega)]
 rw [this]
theorem tick_send {a:Mod.Ag} (hf:a.fenced=false) (hw:a.welcome=true):a.tick=(tickAg a (a.ticks+1) 3,Mod.sendOut a.epoch (a.ticks+1) a.fl 3):=by
 unfold Mod.Ag.tick
 rw [if_neg (by rw [hf];decide),if_neg (by rw [hw];decide)]
 rfl
end Go.Proofs.YtamafdcnbcoegabGreat
namespace Go.Proofs.YtamafdcnbcoegabGreat
open Go.RowKit
theorem wire_front_len (k e s q:Int) (b:List UInt8):(Wire.bytes k e s q b).length=15+b.length:=Wire.length_bytes k e s q b
theorem fence_size (n:Nat):(fenceOf n).data.toList.length=15:=by
 unfold fenceOf
 simp [wire_front_len]
theorem wel_size (a:Mod.Sk) (e:Nat):(skWel a e).data.toList.length=27:=by
 unfold skWel
 simp [wire_front_len,welB,le4S]
theorem ack_size (a:Mod.Sk) (k e:Int) (s qn:Nat) (b:ByteArray):(skAck a k e s qn b).data.toList.length=16:=by
 unfold skAck
 simp [wire_front_len,ackBody]
theorem skReply_small (a:Mod.Sk) (k e:Int) (s q:Nat) (b:ByteArray):(skReply a k e s q b).2.length ≤ 1∧∀ x ∈ (skReply a k e s q b).2,x.data.toList.length ≤ 27:=by
 have h1:∀ c:ByteArray,c.data.toList.length ≤ 27→([c]:List ByteArray).length ≤ 1∧∀ x ∈ ([c]:List ByteArray),x.data.toList.length ≤ 27:=fun c h => ⟨by simp,fun x hx => by rw [List.mem_singleton] at hx;rw [hx];exact h⟩
 unfold skReply
 repeat' split
 all_goals first
  | exact h1 _ (by rw [fence_size];omega)
  | exact h1 _ (by rw [wel_size];omega)
  | exact h1 _ (by rw [ack_size];omega)
  | exact ⟨by simp,fun x hx => by cases hx⟩
theorem skSays_small (a:Mod.Sk) (l:List UInt8):(skSays a l).2.2.length ≤ 1∧∀ x ∈ (skSays a l).2.2,x.data.toList.length ≤ 27:=by
 unfold skSays
 split
 ·exact skReply_small _ _ _ _ _ _
 ·simp
theorem FramesOut.keep {B:Nat} {w x:World} {lv:Value} {fs:List Value} {Fl:List ByteArray} {U:Nat→Prop} (h:FramesOut B w lv fs Fl U) (hk:∀ k,(lv.ownBlock=some k ∨ Done fs fs.length k)→x.heap[k]? = w.heap[k]?):FramesOut B x lv fs Fl U :=
 ⟨h.len,ownsRow_keep h.row (fun k hk' => hk k (.inl hk')),fun j v hv => ownsRow_keep (h.each j v hv) (fun k hk' => hk k (.inr ⟨j,(List.getElem?_eq_some_iff.1 hv).1,v,hv,hk'⟩)),h.apart,h.clear⟩
theorem FramesOut.lt {B:Nat} {w:World} {lv:Value} {fs:List Value} {Fl:List ByteArray} {U:Nat→Prop} (h:FramesOut B w lv fs Fl U):∀ k,(lv.ownBlock=some k ∨ Done fs fs.length k)→B ≤ k∧k < w.heap.size:=by
 rintro k (h1 | ⟨j,_,v,h1,h2⟩)
 ·exact World.ownsRow.lt h.row k h1
 ·exact World.ownsRow.lt (h.each j v h1) k h2
def Outs (fv:Value) (fs:List Value) (k:Nat):Prop:=fv.ownBlock=some k ∨ Done fs fs.length k
end Go.Proofs.YtamafdcnbcoegabGreat
namespace Go.Proofs.YtamafdcnbcoegabGreat
open Go.RowKit
theorem FramesOut.apartU {B:Nat} {w:World} {lv:Value} {fs:List Value} {Fl:List ByteArray} {U U':Nat→Prop} (h:FramesOut B w lv fs Fl U) (hU:∀ k,(lv.ownBlock=some k ∨ Done fs fs.length k)→¬ U' k):FramesOut B w lv fs Fl U' :=
 ⟨h.len,h.row,h.each,h.apart,hU⟩
structure SendI (w:World) (g0 p i:Nat) (c:Av) (st:Mod.Stv) (g:Nat→Nat) (free:List Nat) (pl:Nat→List Nat) (F:List ByteArray) (A:Mod.Ag) (W:World):Prop where
 h0:W.heap[g0]? = some (.cells #[.pointer (some ⟨p,0,none⟩)] 74 (0,0))
 h1:W.heap[g0+1]? = some (.cells #[.int .i64 i] 3 (0,0))
 h3:W.heap[g0+3]? = some (.cells #[.pointer (some ⟨p,4+i * 6,none⟩)] 193 (0,0))
 h4:W.heap[g0+4]? = some (.cells #[.pointer (some ⟨p,4+i * 6,none⟩)] 197 (0,0))
 h5:W.heap[g0+5]? = some (.cells #[.int .i64 4] 3 (0,0))
 mid:∃ lv fs c' sh,W.heap[g0+2]? = some (.cells #[lv] 32 (0,0))∧FramesOut (g0+8) W lv fs F (PaU p c')∧PaAt W p g A.ticks A.welcome A.fenced free sh st c' ∧ OnAg A st.opening g free sh pl∧Far (PaU p c) w W ∧
  (∀ j,PaU p c' j→PaU p c j ∨ g0+8 ≤ j)∧c'.s=c.s∧c'.rv=c.rv∧c'.nv (i * 3)=c.nv (i * 3)∧c'.mv (i * 3)=c.mv (i * 3)
 sz:g0+8 ≤ W.heap.size
 lo:∀ j,PaU p c j→j < g0
 gw:w.heap.size ≤ g0
section
variable {w W W':World} {g0 p i:Nat} {c:Av} {st:Mod.Stv} {g:Nat→Nat} {free:List Nat} {pl:Nat→List Nat} {F:List ByteArray} {A:Mod.Ag}
theorem SendI.same2 (h:SendI w g0 p i c st g free pl F A W) (hS:Same2 (g0+6) W W'):SendI w g0 p i c st g free pl F A W':=by
 obtain ⟨lv,fs,c',sh,m1,m2,m3,m4,m5,m6,m7,m8,m9,m10⟩:=h.mid
 have hq:∀ k,k ≠ g0+6→k ≠ g0+7→W'.heap[k]? = W.heap[k]?:=fun k h1 h2 => hS.rest k h1 (by omega)
 have hF:Far (fun k => k=g0+6 ∨ k=g0+7) W W':=⟨hS.os,hS.tape,hS.output,by rw [hS.size];exact Nat.le_refl _,fun k _ he => hq k (fun e => he (.inl e)) (fun e => he (.inr e))⟩
 have hno:∀ k,PaU p c' k→¬ (k=g0+6 ∨ k=g0+7):=fun k hk e => by
  rcases m6 k hk with h1 | h1
  ·have:=h.lo k h1;omega
  ·omega
 refine ⟨(hq _ (by omega) (by omega)).trans h.h0,(hq _ (by omega) (by omega)).trans h.h1,(hq _ (by omega) (by omega)).trans h.h3,(hq _ (by omega) (by omega)).trans h.h4,(hq _ (by omega) (by omega)).trans h.h5,
  ⟨lv,fs,c',sh,(hq _ (by omega) (by omega)).trans m1,m2.keep (fun k hk => ?_),m3.far hF hno,m4,m5.trans hF (fun k hk e => by have:=h.gw;omega),m6,m7,m8,m9,m10⟩,by rw [hS.size];exact h.sz,h.lo,h.gw⟩
 have:=(m2.lt k hk).1
 exact hq k (by omega) (by omega)
theorem SendI.below (h:SendI w g0 p i c st g free pl F A W) (hb:Below W.heap.size W W'):SendI w g0 p i c st g free pl F A W':=by
 obtain ⟨lv,fs,c',sh,m1,m2,m3,m4,m5,m6,m7,m8,m9,m10⟩:=h.mid
 have hz:=h.sz
 have hq:∀ k,k < W.heap.size→W'.heap[k]? = W.heap[k]?:=fun k hk => hb.block k hk
 exact ⟨(hq _ (by omega)).trans h.h0,(hq _ (by omega)).trans h.h1,(hq _ (by omega)).trans h.h3,(hq _ (by omega)).trans h.h4,(hq _ (by omega)).trans h.h5,
  ⟨lv,fs,c',sh,(hq _ (by omega)).trans m1,m2.keep (fun k hk => hq k (m2.lt k hk).2),m3.below hb,m4,m5.trans (far_below (E:=PaU p c) hb) (fun _ _ h => h),m6,m7,m8,m9,m10⟩,Nat.le_trans hz hb.size,h.lo,h.gw⟩
theorem SendI.iter (h:SendI w g0 p i c st g free pl F A W) (hi:i < 3):IterAt W (g0+4) p (4+i * 6) 4 (c.nv (i * 3)) (c.mv (i * 3)) (keptL (A.fl i).base (A.fl i).kept (pl i)):=by
 obtain ⟨lv,fs,c',sh,m1,m2,m3,m4,m5,m6,m7,m8,m9,m10⟩:=h.mid
 have hs:=m3.ks.shs (i * 3) (by omega)
 rw [m4.kp i hi,m9,m10] at hs
 refine ⟨blk_cell h.h4,blk_cell h.h5,?_,?_,hs⟩
 ·rw [blk_cell m3.ks.blk,show 4+i * 6=4+i * 3 * 2 by omega,m3.ks.an (i * 3) (by omega),m9]
 ·rw [blk_cell m3.ks.blk,show 4+i * 6+1=4+i * 3 * 2+1 by omega,m3.ks.am (i * 3) (by omega),m10]
end
end Go.Proofs.YtamafdcnbcoegabGreat
namespace Go.Proofs.YtamafdcnbcoegabGreat
open Go.RowKit
section
variable {w W:World} {g0 p i:Nat} {c:Av} {st:Mod.Stv} {g:Nat→Nat} {free:List Nat} {pl:Nat→List Nat} {F:List ByteArray} {a:Mod.Ag} {tk k:Nat}
theorem SendI.put (h:SendI w g0 p i c st g free pl F (sentAg a i tk k) W) (hi:i < 3) (hk:k < (a.fl i).kept.length) (hd:Mod.due (a.fl i) tk k (a.fl i).kept[k].2=true) (ht:tk ≠ 0) :
  Calls Tryz.prog 107 #[.pointer (some ⟨p,4+i * 6+2,none⟩),.int .i64 ((a.fl i).base+1+k:Nat),.int .i64 tk] W fun r z => r = .returned (.tuple #[])∧SendI w g0 p i c st g free pl F (sentAg a i tk (k+1)) z∧z.heap[g0+6]? = W.heap[g0+6]? ∧ z.heap[g0+7]? = W.heap[g0+7]? ∧ W.heap.size ≤ z.heap.size∧∀ (j:Nat) (cs:Array Value),W.heap[j]? = some (Obj.cells cs 140 (0,0))→z.heap[j]? = W.heap[j]?:=by
 obtain ⟨lv,fs,c',sh,m1,m2,m3,m4,m5,m6,m7,m8,m9,m10⟩:=h.mid
 have hlen:(sh (i * 3+1)).length < 1000:=by
  have h1:=sent_small (m3.ks.shs (i * 3+1) (by omega)).sorted (m4.sn i hi)
  have h2:=room_le (a:=sentAg a i tk k) hi
  have h3:=m4.sum
  omega
 have hP:=putI_any (m3.shAt (i:=i * 3+1) (by omega)) hlen ((a.fl i).base+1+k) tk
 rw [show 4+(i * 3+1) * 2=4+i * 6+2 by omega] at hP
 refine hP.mono ?_
 rintro r z ⟨rfl,hst⟩
 refine ⟨rfl,?_⟩
 rw [show 4+i * 6+2=4+(i * 3+1) * 2 by omega] at hst
 obtain ⟨c4,K4,F4,N4,v1,v2⟩:=paStep_sh m3 (by omega) hst
 have hnv:=paAt_nv m3 hst K4 (i * 3) (by omega) (by omega)
 have hFU:∀ k,(k=p ∨ ShU (c'.nv (i * 3+1)) (c'.mv (i * 3+1)) k)→PaU p c' k:=fun k hk => hk.elim (fun h => .inl (.inl h)) (fun h => .inl (.inr (.inr ⟨i * 3+1,by omega,h⟩)))
 have hz:=h.sz
 have hno:∀ j,g0 ≤ j→j < g0+8→¬ PaU p c' j:=fun j h1 h2 hu => by
  rcases m6 j hu with h3 | h3
  ·have:=h.lo j h3;omega
  ·omega
 have hq:∀ j,g0 ≤ j→j < g0+8→z.heap[j]? = W.heap[j]?:=fun j h1 h2 => F4.rest j (by omega) (hno j h1 h2)
 have O4:=onAg_sentAg m4 hi hk hd ht
 have hm2:=(m2.keep (x:=z) (fun j hj => F4.rest j (m2.lt j hj).2 (m2.clear j hj))).apartU (U':=PaU p c4) (fun j hj hu => by
  rcases N4 j hu with h3 | h3
  ·exact m2.clear j hj h3
  ·have:=(m2.lt j hj).2;omega)
 refine ⟨?_,hq _ (by omega) (by omega),hq _ (by omega) (by omega),F4.size,fun j cs hj => F4.rest j (lt_of_block hj) (pa_not_cells m3 hj (by decide) (by decide) (by decide) (by decide) (by decide) (by decide) (by decide))⟩
 refine ⟨(hq _ (by omega) (by omega)).trans h.h0,(hq _ (by omega) (by omega)).trans h.h1,(hq _ (by omega) (by omega)).trans h.h3,(hq _ (by omega) (by omega)).trans h.h4,(hq _ (by omega) (by omega)).trans h.h5,
  ⟨lv,fs,c4,_,(hq _ (by omega) (by omega)).trans m1,hm2,K4,O4,m5.trans F4 (fun j hj hu => (m6 j hu).elim id (fun h3 => by have:=h.gw;omega)),fun j hu => ?_,v1.trans m7,v2.trans m8,hnv.1.trans m9,hnv.2.trans m10⟩,Nat.le_trans hz F4.size,h.lo,h.gw⟩
 rcases N4 j hu with h3 | h3
 ·exact m6 j h3
 ·exact .inr (by omega)
end
end Go.Proofs.YtamafdcnbcoegabGreat
namespace Go.Proofs.YtamafdcnbcoegabGreat
open Go.RowKit
section
variable {P:Program} {ops:Array Oper} {Q:Exit→Act→World→Prop} {lr n:Nat}
theorem monoIn_foot {a0:Act} {w0:World} (Φ:Nat→Value→World→Prop) (E:Nat→Nat→Prop) (hok:monoOk ops a0.tmps.size=true)
  (hst:∀ i j v w w',i ≠ j→depB ops j i=false→Φ j v w→Far (E i) w w' → Φ j v w')
  (hop:∀ i o,ops[i]? = some o→∀ a w,Far (fun b => ∃ k,k ≠ i∧depB ops k i=false∧E k b) w0 w→GoodAct ops Φ a0 i o a w →
   if Region.wanted o (yielded ops a.tmps)=true then Oper.wpIn (Fence.wide.inRound lr) n P o a w (fun a' w' => ∃ v,a' = a.put o.dst v∧Far (E i) w w' ∧ Φ i (valOf o.dst v) w') Q else Φ i undef w)
  (hend:∀ a w,Far (fun b => ∃ k,E k b) w0 w→(∀ i o,ops[i]? = some o→Φ i (match o.dst with | some d => a.tmps.getD d undef | none => undef) w)→(∀ t,wr ops t=none→a.tmps.getD t undef=a0.tmps.getD t undef)→a.defers=a0.defers→a.tmps.size=a0.tmps.size→Q .normal a w) :
  ∀ (fuel:Nat) (L:Array Bool) (a:Act) (w:World),FootInv ops Φ E a0 w0 L a w→(List.range ops.size).countP (fun i => !L.getD i false) ≤ fuel→wpAnyIn (Fence.wide.inRound lr) n P .any ops Q fuel L a w:=by
 have hrdy:∀ (L:Array Bool) (a:Act) (w:World),FootInv ops Φ E a0 w0 L a w→Region.ready .any ops L = [] → Q .normal a w:=by
  intro L a w hI hr
  have hall:∀ n i,i < n→i < ops.size→L.getD i false=true:=by
   intro n
   induction n with
   | zero => intro i h;omega
   | succ n ih =>
    intro i h hi
    by_cases hin:i < n
    ·exact ih i hin hi
    ·have e:i=n:=by omega
     subst e
     cases hL:L.getD i false
     ·exfalso
      have ho:ops[i]? = some ops[i]:=Array.getElem?_eq_getElem hi
      obtain ⟨_,_,h3⟩:=monoOk_spec hok ho
      have:i ∈ Region.ready .any ops L:=mem_ready.2 ⟨by
       have hs:i < L.size:=by rw [hI.size];exact hi
       rw [Array.getD_eq_getD_getElem?,Array.getElem?_eq_getElem hs] at hL ⊢
       exact hL,ops[i],ho,fun e he hb => by
       have hd:depB ops i e.on=true:=by
        unfold depB
        rw [ho]
        exact Array.any_eq_true'.2 ⟨e,he,by simp [hb]⟩
       have hlt:=h3 _ hd
       exact ih e.on hlt (by omega)⟩
      rw [hr] at this
      cases this
     ·rfl
  refine hend a w (hI.ext.mono (fun b _ h => h.imp fun k h => h.2)) (fun i o ho => hI.vals i o ho (hall ops.size i (Array.getElem?_eq_some_iff.1 ho).1 (Array.getElem?_eq_some_iff.1 ho).1)) (fun t ht => hI.rest t (fun j hj => by rw [ht] at hj;cases hj)) hI.defers hI.tsize
 intro fuel
 induction fuel with
 | zero =>
  intro L a w hI hc
  have hr:Region.ready .any ops L = []:=by
   apply List.eq_nil_iff_forall_not_mem.2
   intro i hi
   obtain ⟨h0,o,ho,_⟩:=mem_ready.1 hi
   have hlt:i < ops.size:=(Array.getElem?_eq_some_iff.1 ho).1
   have h0':L.getD i false=false:=by
    have hs:i < L.size:=by rw [hI.size];exact hlt
    rw [Array.getD_eq_getD_getElem?,Array.getElem?_eq_getElem hs] at h0 ⊢
    exact h0
   have:0 < (List.range ops.size).countP (fun i => !L.getD i false):=List.countP_pos_iff.2 ⟨i,List.mem_range.2 hlt,by simp [h0']⟩
   omega
  exact ⟨hr,hrdy L a w hI hr⟩
 | succ fuel ih =>
  intro L a w hI hc
  refine ⟨hrdy L a w hI,fun i hi => ?_⟩
  obtain ⟨h0,o,ho,hdeps⟩:=mem_ready.1 hi
  have hlt:i < ops.size:=(Array.getElem?_eq_some_iff.1 ho).1
  have hls:i < L.size:=by rw [hI.size];exact hlt
  have h0':L.getD i false=false:=by
   rw [Array.getD_eq_getD_getElem?,Array.getElem?_eq_getElem hls] at h0 ⊢
   exact h0
  obtain ⟨hd,hl,hlex⟩:=monoOk_spec hok ho
  have hdl:∀ j,depB ops i j=true→L.getD j false=true:=by
   intro j hj
   unfold depB at hj
   rw [ho] at hj
   obtain ⟨e,he,hb⟩:=Array.any_eq_true'.1 hj
   simp only [Bool.and_eq_true,beq_iff_eq] at hb
   rw [← hb.2];exact hdeps e he hb.1
  have hgood:GoodAct ops Φ a0 i o a w:=by
   intro t ht
   cases hw:wr ops t with
   | none => exact hI.rest t (fun j hj => by rw [hw] at hj;cases hj)
   | some j =>
    simp only []
    have hj:=List.find?_some hw
    simp only [beq_iff_eq] at hj
    split
    ·rename_i hdep
     cases hoj:ops[j]? with
     | none => rw [hoj] at hj;cases hj
     | some oj =>
      rw [hoj] at hj
      have hvv:=hI.vals j oj hoj (hdl j hdep)
      have hj':oj.dst=some t:=hj
      rw [hj'] at hvv
      exact hvv
    ·rename_i hdep
     refine hI.rest t (fun j' hj' => ?_)
     rw [hw] at hj'
     cases hj'
     rcases hl t ht j hw with h | h
     ·exact absurd h hdep
     ·cases hLj:L.getD j false
      ·rfl
      ·have:=hI.closed j hLj i h
       rw [h0'] at this;cases this
  have hstep:∀ v w',Far (E i) w w' → Φ i (valOf o.dst v) w' → FootInv ops Φ E a0 w0 (L.setIfInBounds i true) (a.put o.dst v) w':=by
   intro v w' hb hv
   have hget:∀ k,(L.setIfInBounds i true).getD k false=true ↔ (k=i ∨ L.getD k false=true):=by
    intro k
    by_cases hk:k=i
    ·subst hk
     simp [Array.getD_eq_getD_getElem?,hls]
    ·rw [getD_set_ne false (fun e => hk e.symm)]
     simp [hk]
   have hput:∀ t,(a.put o.dst v).tmps.getD t undef=if o.dst=some t then v else a.tmps.getD t undef:=by
    intro t
    cases hdst:o.dst with
    | none => simp [Act.put]
    | some d =>
     simp only [Act.put,Option.some.injEq]
     have hdsz:d < a.tmps.size:=by rw [hI.tsize];exact (hd d hdst).1
     by_cases h:d=t
     ·subst h
      simp [Array.getD_eq_getD_getElem?,hdsz]
     ·simp [Array.getD_eq_getD_getElem?,h]
   refine ⟨by simp [hI.size],(hI.ext.mono (fun b _ h => by obtain ⟨k,h1,h2⟩:=h;exact ⟨k,(hget k).2 (.inr h1),h2⟩)).trans hb (fun b _ h => ⟨i,(hget i).2 (.inl rfl),h⟩),?_,?_,?_,?_,?_⟩
   ·intro k hk j hj
    rw [hget] at hk ⊢
    rcases hk with rfl | hk
    ·exact .inr (hdl j hj)
    ·exact .inr (hI.closed k hk j hj)
   ·intro k ok hok' hk
    rw [hget] at hk
    rcases hk with rfl | hk
    ·rw [ho] at hok';cases hok'
     cases hdst:o.dst with
     | none => rw [hdst] at hv;exact hv
     | some d =>
      rw [hdst] at hv
      simp only []
      have hp:=hput d
      rw [if_pos hdst,hdst] at hp
      rw [hp];exact hv
    ·have hki:i ≠ k:=by
      intro e
      subst e
      rw [h0'] at hk;cases hk
     have hnd:depB ops k i=false:=by
      cases hd:depB ops k i with
      | false => rfl
      | true =>
       have:=hI.closed k hk i hd
       rw [h0'] at this;cases this
     have hvk:=hst i k _ _ _ hki hnd (hI.vals k ok hok' hk) hb
     cases hdk:ok.dst with
     | none => rw [hdk] at hvk;exact hvk
     | some d =>
      rw [hdk] at hvk
      simp only [] at hvk ⊢
      have hne:o.dst ≠ some d:=by
       intro e
       have h1:=(hd d e).2
       have h2:=((monoOk_spec hok hok').1 d hdk).2
       rw [h1] at h2
       cases h2
       exact hki rfl
      rw [hput,if_neg hne]
      exact hvk
   ·intro t ht
    rw [hput]
    have hne:o.dst ≠ some t:=by
     intro e
     have:=ht i (hd t e).2
     have h2:=(hget i).2 (.inl rfl)
     rw [this] at h2;cases h2
    rw [if_neg hne]
    refine hI.rest t (fun j hj => ?_)
    cases hLj:L.getD j false
    ·rfl
    ·have:=ht j hj
     rw [(hget j).2 (.inr hLj)] at this;cases this
   ·cases o.dst <;> exact hI.defers
   ·rw [← hI.tsize];cases o.dst <;> simp [Act.put]
  have hcount:(List.range ops.size).countP (fun k => !(L.setIfInBounds i true).getD k false) ≤ fuel:=by
   have:=countP_lt (l:=List.range ops.size) (p:=fun k => !L.getD k false) (q:=fun k => !(L.setIfInBounds i true).getD k false)
    (fun k _ hk => by
     by_cases hki:k=i
     ·subst hki;simp [h0']
     ·rw [getD_set_ne false (fun e => hki e.symm)] at hk;exact hk)
    ⟨i,List.mem_range.2 hlt,by simp [h0'],by simp [Array.getD_eq_getD_getElem?,hls]⟩
   omega
  have hg:=hop i o ho a w (hI.ext.mono (fun b _ h => by
   obtain ⟨k,h1,h2⟩:=h
   refine ⟨k,fun e => ?_,?_,h2⟩
   ·subst e;rw [h0'] at h1;cases h1
   ·cases hd:depB ops k i with
    | false => rfl
    | true =>
     have:=hI.closed k h1 i hd
     rw [h0'] at this;cases this)) hgood
  unfold wpOpIn
  rw [ho]
  simp only []
  split at hg
  ·rename_i hw
   rw [if_pos hw]
   refine Oper.wpIn_mono ?_ hg
   rintro a' w' ⟨v,rfl,hb,hv⟩
   exact ih _ _ _ (hstep v w' hb hv) hcount
  ·rename_i hw
   rw [if_neg hw]
   exact ⟨fun _ _ => trivial,ih _ _ _ (hstep undef w (Far.refl _ _) (by cases o.dst <;> exact hg)) hcount⟩
def FootOpsIn (lr n:Nat) (P:Program) (ops:Array Oper) (Q:Exit→Act→World→Prop) (L:List (Value→World→Prop)) (Ws:List (Nat × (Nat→Prop))) (a0:Act) (w0:World):Nat→List Oper→List (List (Tmp × Option Nat))→List (Value→World→Prop)→Prop
 | i,o :: os,pl :: pls,φ :: φs => (∀ a w,Far (footBut Ws ops i) w0 w→PlanFacts L a0 a w pl →
   if Region.wanted o (yielded ops a.tmps)=true then Oper.wpIn (Fence.wide.inRound lr) n P o a w (fun a' w' => ∃ v,a' = a.put o.dst v∧Far (footOf Ws i) w w' ∧ φ (valOf o.dst v) w') Q else φ undef w)∧FootOpsIn lr n P ops Q L Ws a0 w0 (i+1) os pls φs
 | _,[],_,_ => True
 | _,_,_,_ => False
theorem footOpsIn_get {L:List (Value→World→Prop)} {Ws:List (Nat × (Nat→Prop))} {a0:Act} {w0:World}:∀ {s:Nat} {os:List Oper} {pls:List (List (Tmp × Option Nat))} {φs:List (Value→World→Prop)},FootOpsIn lr n P ops Q L Ws a0 w0 s os pls φs →
  ∀ (i:Nat) o pl,os[i]? = some o→pls[i]? = some pl→∀ a w,Far (footBut Ws ops (s+i)) w0 w→PlanFacts L a0 a w pl →
   if Region.wanted o (yielded ops a.tmps)=true then Oper.wpIn (Fence.wide.inRound lr) n P o a w (fun a' w' => ∃ v,a' = a.put o.dst v∧Far (footOf Ws (s+i)) w w' ∧ φs.getD i (fun _ _ => True) (valOf o.dst v) w') Q else φs.getD i (fun _ _ => True) undef w
 | _,[],_,_,_,i,o,pl,ho,_ => by simp at ho
 | _,o :: os,[],_,h,_,_,_,_,_ => h.elim
 | _,o :: os,pl :: pls,[],h,_,_,_,_,_ => h.elim
 | _,o :: os,pl :: pls,φ :: φs,h,0,o',pl',ho,hp => by
  simp at ho hp;subst ho;subst hp
  exact h.1
 | s,o :: os,pl :: pls,φ :: φs,h,i+1,o',pl',ho,hp => by
  have:=footOpsIn_get h.2 i o' pl' (by simpa using ho) (by simpa using hp)
  rw [show s+1+i=s+(i+1) by omega] at this
  simpa using this
theorem wpIn_region_foot {id:Nat} {a0:Act} {w0:World} (hm:P.follows .mixedOrders=true) (L:List (Value→World→Prop)) (plan:List (List (Tmp × Option Nat))) (D:List (Option Tmp)) (M:List Bool) (Ws:List (Nat × (Nat→Prop)))
  (hon:onceB Ws=true) (hok:monoOk ops a0.tmps.size=true) (hplan:planOf ops=plan) (hD:dstsOf ops=D) (hM:maskOf ops a0.tmps.size=M) (hst:AllStable L) (hstF:AllStableF ops L Ws) (hop:FootOpsIn lr n P ops Q L Ws a0 w0 0 ops.toList plan L)
  (hend:∀ f w,Far (fun b => ∃ p ∈ Ws,p.2 b) w0 w→EveryWord f w D L→Q .normal { tmps:=(mergeT M a0.tmps.toList 0 f).toArray,defers:=a0.defers } w) :
  (Code.region id ops true).wpIn (Fence.wide.inRound lr) n P Q a0 w0:=by
 refine wpIn_region_any hm (monoIn_foot (w0:=w0) (fun i => L.getD i (fun _ _ => True)) (footOf Ws) hok ?_ ?_ ?_ ops.size _ a0 _ ⟨by simp,far_below ((Below.refl _ _).drew),?_,?_,fun _ _ => rfl,rfl,rfl⟩ ?_)
 ·intro i j v w w' hij hd hv hF
  by_cases hi:∃ p ∈ Ws,p.1=i
  ·obtain ⟨p,hp,rfl⟩:=hi
   have hs:=stableBut_get (allStableF_get hstF p hp) j (by omega) (by rw [Nat.zero_add];exact hd)
   exact hs v w w' hv (hF.mono (fun b _ h => by
    obtain ⟨q,hq,e,hb⟩:=h
    rw [once_same hon hp hq e.symm];exact hb))
  ·exact allStable_get hst j v w w' hv (hF.below (Nat.le_refl _) (fun k _ h => by
    obtain ⟨q,hq,e,_⟩:=h
    exact hi ⟨q,hq,e⟩))
 ·intro i o ho a w hb hg
  have hlt:i < ops.size:=(Array.getElem?_eq_some_iff.1 ho).1
  have hpl:plan[i]? = some ((o.looksAt ops).map fun t => (t,match wr ops t with
     | some j => if depB ops i j=true then some j else none
     | none => none)):=by
   rw [← hplan]
   unfold planOf
   rw [List.getElem?_map,List.getElem?_range hlt,Option.map_some,ho]
   try rfl
  have:=footOpsIn_get hop i o _ (by simpa using ho) hpl a w (by
   rw [Nat.zero_add]
   exact hb.mono (fun b _ h => by
    obtain ⟨k,h1,h2,p,hp,rfl,h3⟩:=h
    exact ⟨p,hp,h1,h2,h3⟩)) (planFacts_of rfl (o:=o) _ hg)
  rw [Nat.zero_add] at this
  exact this
 ·intro a w hb hv hr hd hs
  have h:=hend (fun t => a.tmps.getD t undef) w (hb.mono (fun b _ h => by
   obtain ⟨k,p,hp,_,h3⟩:=h
   exact ⟨p,hp,h3⟩)) (by rw [← hD];exact everyWord_of (fun i o ho => hv i o (by simpa using ho)))
  have e:mergeT M a0.tmps.toList 0 (fun t => a.tmps.getD t undef)=a.tmps.toList:=by
   refine mergeT_eq _ _ _ _ _ (by rw [← hM];simp [maskOf]) (by simpa using hs) ?_ ?_
   ·intro j hj _
    simp [Array.getD_eq_getD_getElem?,List.getD_eq_getElem?_getD]
   ·intro j hj hb
    rw [← hM] at hb
    have hj':j < a0.tmps.size:=by rw [← hs];simpa using hj
    have hw:wr ops j=none:=by
     unfold maskOf at hb
     simp [List.getD_eq_getElem?_getD,List.getElem?_map,List.getElem?_range hj'] at hb
     exact hb
    have:=hr j hw
    simpa [Array.getD_eq_getD_getElem?,List.getD_eq_getElem?_getD] using this
  rw [e,← hd] at h
  exact h
 ·intro k hk
  simp [Array.getD_eq_getD_getElem?] at hk
  rcases h:(Array.replicate ops.size false)[k]? with _ | b <;> simp [h] at hk
  subst hk
  have:=Array.getElem?_eq_some_iff.1 h
  obtain ⟨h1,h2⟩:=this
  simp at h2
 ·intro i o ho hk
  exfalso
  simp [Array.getD_eq_getD_getElem?] at hk
  rcases h:(Array.replicate ops.size false)[i]? with _ | b <;> simp [h] at hk
  subst hk
  have:=Array.getElem?_eq_some_iff.1 h
  obtain ⟨h1,h2⟩:=this
  simp at h2
 ·exact Nat.le_trans List.countP_le_length (by simp)
end
end Go.Proofs.YtamafdcnbcoegabGreat
namespace Go.Proofs.YtamafdcnbcoegabGreat
open Go.RowKit
theorem sendTo_fst (e s:Nat) (f:Mod.Flow) (t:Nat):∀ k,(Mod.sendTo e s f t k).1.map (·.1)=f.kept.map (·.1)
 | 0 => rfl
 | k+1 => by
  have ih:=sendTo_fst e s f t k
  by_cases h:k < f.kept.length
  ·cases hd:Mod.due f t k f.kept[k].2 with
   | false => rw [sendTo_skip h hd];exact ih
   | true =>
    rw [sendTo_send h hd]
    simp only [List.map_set,ih]
    refine List.ext_getElem? fun n => ?_
    rw [List.getElem?_set]
    by_cases en:k=n
    ·subst en
     rw [if_pos rfl,if_pos (by simpa using h),List.getElem?_map,List.getElem?_eq_getElem h]
     rfl
    ·rw [if_neg en]
  ·rw [sendTo_over (by omega)];exact ih
def sentFr (a:Mod.Ag) (i tk k:Nat):List ByteArray:=(Mod.sendTo a.epoch i (a.fl i) tk k).2.map fun l => ⟨l.toArray⟩
theorem sentFr_send {a:Mod.Ag} {i tk k:Nat} (hk:k < (a.fl i).kept.length) (hd:Mod.due (a.fl i) tk k (a.fl i).kept[k].2=true):sentFr a i tk (k+1)=sentFr a i tk k ++ [⟨(Wire.bytes 3 a.epoch i ((a.fl i).base+1+k:Nat) (a.fl i).kept[k].1.data.toList).toArray⟩]:=by
 unfold sentFr
 rw [sendTo_send hk hd]
 simp
theorem sentFr_skip {a:Mod.Ag} {i tk k:Nat} (hk:k < (a.fl i).kept.length) (hd:Mod.due (a.fl i) tk k (a.fl i).kept[k].2=false):sentFr a i tk (k+1)=sentFr a i tk k:=by
 unfold sentFr
 rw [sendTo_skip hk hd]
theorem sentFr_four {a:Mod.Ag} {i tk k:Nat} (h:k=min 4 (a.fl i).kept.length):sentFr a i tk 4=sentFr a i tk k:=by
 unfold sentFr
 rw [sendTo_four (i:=k) (by omega) (by omega)]
section
variable {w W:World} {g0 p i:Nat} {c:Av} {st:Mod.Stv} {g:Nat→Nat} {free:List Nat} {sh:Nat→List (Nat × Value)} {pl:Nat→List Nat} {F:List ByteArray} {a:Mod.Ag} {tk k:Nat}
theorem SendI.iterK (h:SendI w g0 p i c st g free pl F (sentAg a i tk k) W) (hi:i < 3):IterAt W (g0+4) p (4+i * 6) 4 (c.nv (i * 3)) (c.mv (i * 3)) (keptL (a.fl i).base (a.fl i).kept (pl i)):=by
 have:=h.iter hi
 rw [sentAg_fl] at this
 rw [keptL_same (a.fl i).base (a.fl i).kept (Mod.sendTo a.epoch i (a.fl i) tk k).1 (pl i) (sendTo_fst _ _ _ _ _).symm]
 exact this
theorem sendI_start (H:PaAt w p g a.ticks a.welcome a.fenced free sh st c) (O:OnAg a st.opening g free sh pl) (hg:g0=w.heap.size) (hb:Below g0 w W)
  (h0:W.heap[g0]? = some (.cells #[.pointer (some ⟨p,0,none⟩)] 74 (0,0)))
  (h1:W.heap[g0+1]? = some (.cells #[.int .i64 i] 3 (0,0)))
  (h2:W.heap[g0+2]? = some (.cells #[.slice none 0 0] 32 (0,0)))
  (h3:W.heap[g0+3]? = some (.cells #[.pointer (some ⟨p,4+i * 6,none⟩)] 193 (0,0)))
  (h4:W.heap[g0+4]? = some (.cells #[.pointer (some ⟨p,4+i * 6,none⟩)] 197 (0,0)))
  (h5:W.heap[g0+5]? = some (.cells #[.int .i64 4] 3 (0,0))) (hz:g0+8 ≤ W.heap.size) :
  SendI w g0 p i c st g free pl (sentFr a i tk 0) (sentAg a i tk 0) W:=by
 have hbw:Below w.heap.size w W:=by rw [← hg];exact hb
 rw [sentAg_zero]
 refine ⟨h0,h1,h3,h4,h5,⟨_,[],c,sh,h2,⟨rfl,World.ownsRow_nil _ _ _ _,(fun j v hj => by simp at hj),(fun i j u v hi => by simp at hi),fun k hk => ?_⟩,H.below hbw,O,far_below hbw,fun j hj => .inl hj,rfl,rfl,rfl,rfl⟩,hz,fun j hj => by have:=H.lt j hj;omega,by omega⟩
 rcases hk with h | ⟨j,hj,_⟩
 ·cases h
 ·simp at hj
end
end Go.Proofs.YtamafdcnbcoegabGreat
