/-
  Part 17 of a proof: L36, L37, L38, U5, N1, T8, N2, N3, N4, N5, V6, N8, P2, J1.
-/
import Derived.Deep.CutRange
import Derived.Test.YtamafdcnbcoegaaGreatFe16
namespace Go.Proofs.YtamafdcnbcoegaaGreat
open Go.RowKit
section
variable {w : World} {p : Nat} {g0 : Nat → Nat} {free : List Nat} {sh : Nat → List (Nat × Value)} {st : Mod.Stv} {c : Av} {a a2 : Mod.Ag} {pl : Nat → List Nat} {op : Nat}
set_option maxRecDepth 100000 in
set_option maxHeartbeats 4000000 in
theorem agDeliver_no2 (H : PaAt w p g0 a.ticks a.welcome a.fenced free sh st c) (hs : AlvW op st a free pl) (O : OnAg a st.opening g0 free sh pl) (bs : Value) (l : List UInt8) (hat : BytesAt w bs l) (hr : Wire.reads l = false) :
  Calls Tryz.prog 57 #[ptrTo p, bs] w fun r z => r = .returned (.int .i64 1) ∧ AgIs3 op w z p a c := by
 have c0 : w.cell? ⟨p, 0, none⟩ = some (ptrTo c.s) := by rw [blk_cell H.ks.blk, H.ks.a0]
 have hID := storeIsDead_any H.stt
 rw [hs.dead] at hID
 have HID := hide hID
 have hDC := decode_any bs l w hat
 rw [hr] at hDC
 simp only [Bool.false_eq_true, if_false, zeroFr] at hDC
 have HDC := hide hDC
 have HK := hide (agIs3_refl H hs O)
 clear H hID hDC
 unfold ptrTo at *
 go_enter Tryz.func57, Tryz.ntmps57
 go_wp2_with (first | (go_at_call 86; refine (unhide HID).mono ?_; rintro r y ⟨rfl, rfl⟩) | (go_at_call 54; refine (unhide HDC).mono ?_; rintro r y ⟨rfl, hb⟩; replace hb := hide hb))
 go_ret
 exact ⟨rfl, (unhide HK).below ((unhide hb).alloc (unhide hb).size _)⟩
set_option maxRecDepth 100000 in
set_option maxHeartbeats 4000000 in
theorem agDeliver_0b (H : PaAt w p g0 a.ticks a.welcome a.fenced free sh st c) (hs : AlvW op st a free pl) (O : OnAg a st.opening g0 free sh pl) (bs : Value) (k e s q : Int) (b : ByteArray) (hk : k = 2)
  (hDec : ∀ y, Below w.heap.size w y → Calls Tryz.prog 54 #[bs] y fun r z => r = .returned (.tuple #[.agg #[.int .i64 k, .int .i64 e, .int .i64 s, .int .i64 q, .string b], .int .i64 0]) ∧ Below y.heap.size y z)
  (hC : ∀ y, Below w.heap.size w y → Calls Tryz.prog 104 #[ptrTo p, .agg #[.int .i64 2, .int .i64 e, .int .i64 s, .int .i64 q, .string b]] y fun r z => r = .returned (.int .i64 0) ∧ AgIs3 op y z p a2 c) :
  Calls Tryz.prog 57 #[ptrTo p, bs] w fun r z => r = .returned (.int .i64 0) ∧ AgIs3 op w z p a2 c := by
 have c0 : w.cell? ⟨p, 0, none⟩ = some (ptrTo c.s) := by rw [blk_cell H.ks.blk, H.ks.a0]
 have hID := storeIsDead_any H.stt
 rw [hs.dead] at hID
 have HID := hide hID
 have HDC := hide (hDec w (Below.refl _ _))
 subst hk
 have hCC := fun y hy => hide (hC y hy)
 clear hC
 obtain ⟨ad, cap, hrv, hcap1, hcap2, hcells⟩ := H.rl.shape
 obtain ⟨g, o, rfl, hcl⟩ := hcells (by omega)
 have r0 : w.cell? ⟨g, o, none⟩ = some (.int .i64 2) := by have := hcl 0 (by omega); simpa [agRules] using this
 have r1 : w.cell? ⟨g, o + 1, none⟩ = some (.func (.func 104) #[ptrTo p] #[]) := by have := hcl 1 (by omega); simpa [agRules] using this
 have r2 : w.cell? ⟨g, o + 2, none⟩ = some (.int .i64 4) := by have := hcl 2 (by omega); simpa [agRules] using this
 have r3 : w.cell? ⟨g, o + 2 + 1, none⟩ = some (.func (.func 105) #[ptrTo p] #[]) := by have := hcl 3 (by omega); simpa [agRules] using this
 have r4 : w.cell? ⟨g, o + 4, none⟩ = some (.int .i64 5) := by have := hcl 4 (by omega); simpa [agRules] using this
 have r5 : w.cell? ⟨g, o + 4 + 1, none⟩ = some (.func (.func 106) #[ptrTo p] #[]) := by have := hcl 5 (by omega); simpa [agRules] using this
 have c26 : w.cell? ⟨p, 26, none⟩ = some (.slice (some ⟨g, o, none⟩) 3 cap) := by rw [blk_cell H.ks.blk, H.ks.ar, hrv]
 have hgl : g < w.heap.size := World.block_lt_of_cell? _ _ r0
 have hpl := lt_of_block H.ks.blk
 have HST := hide (agIs3_refl H hs O)
 clear H hID hDec hcl hcells hrv
 unfold ptrTo at *
 go_enter Tryz.func57, Tryz.ntmps57
 go_upto_region 4 with (first | (go_at_call 86; refine (unhide HID).mono ?_; rintro r y ⟨rfl, hyw⟩; obtain rfl : w = y := hyw.symm) | (go_at_call 54; refine (unhide HDC).mono ?_; rintro r y ⟨rfl, hb⟩))
 obtain ⟨g6, hg6⟩ : ∃ g6, g6 = y.heap.size := ⟨_, rfl⟩
 have hgw : w.heap.size ≤ g6 := by have := hb.size; omega
 have HG6 := hide hg6
 have HB := hide hb
 rw [← hg6]
 clear hg6 hb
 refine wp_world (fun u => u.heap[g6]? = some (.cells #[.int .i64 2, .int .i64 e, .int .i64 s, .int .i64 q, .string b] 41 (0, 0)) ∧ Below w.heap.size w u) ?_ ?_
 ·rw [unhide HG6]
  exact ⟨heap_alloc_new _ _, (unhide HB).alloc (unhide HB).size _⟩
 clear HG6 HB c0 HDC HID
 rintro u ⟨h6, hbu⟩
 have d26 := (hbu.cell (p := ⟨p, 26, none⟩) hpl).trans c26
 have H6 := hide h6
 have HU := hide hbu
 clear h6 hbu c26
 go_wp2
 go_loopw [8, 27] (fun _ i wr => ∃ j : Nat, j ≤ 0 ∧ i = .int .i64 j ∧ wr.heap[g6]? = some (.cells #[.int .i64 2, .int .i64 e, .int .i64 s, .int .i64 q, .string b] 41 (0, 0)) ∧ Below w.heap.size w wr) (fun _ i _ => 4 - (intOf i).toNat)
 case atStart => exact ⟨0, by omega, rfl, unhide H6, unhide HU⟩
 case round =>
  obtain ⟨j, hj, rfl, h6, hb⟩ := hrel
  clear H6 HU d26
  have s0 := (hb.cell (p := ⟨g, o, none⟩) hgl).trans r0
  have s1 := (hb.cell (p := ⟨g, o + 1, none⟩) hgl).trans r1
  have s2 := (hb.cell (p := ⟨g, o + 2, none⟩) hgl).trans r2
  have s3 := (hb.cell (p := ⟨g, o + 2 + 1, none⟩) hgl).trans r3
  have s4 := (hb.cell (p := ⟨g, o + 4, none⟩) hgl).trans r4
  have s5 := (hb.cell (p := ⟨g, o + 4 + 1, none⟩) hgl).trans r5
  have y0 := blk_cell (i := 0) h6
  have y1 := blk_cell (i := 1) h6
  have y2 := blk_cell (i := 2) h6
  have y3 := blk_cell (i := 3) h6
  have y4 := blk_cell (i := 4) h6
  simp at y0 y1 y2 y3 y4
  have h6l := lt_of_block h6
  have HH6 := hide h6
  have HBB := hide hb
  have hnext : ∀ ob, (wr.alloc ob).heap[g6]? = some (.cells #[.int .i64 2, .int .i64 e, .int .i64 s, .int .i64 q, .string b] 41 (0, 0)) ∧ Below w.heap.size w (wr.alloc ob) := fun ob => ⟨(hao _ _ h6l).trans h6, hb.alloc hb.size _⟩
  have HNX := hide hnext
  clear h6 hb hnext r0 r1 r2 r3 r4 r5
  have hsf0 : ∀ (ad : Addr) (m : Mode) (z : World), (store ad (.func (.func 104) #[.pointer (some ⟨p, 0, none⟩)] #[]) m).run Tryz.prog z = stored Tryz.prog z ad (.func (.func 104) #[.pointer (some ⟨p, 0, none⟩)] #[]) m := fun ad m z => run_store _ _ _ _ _ rfl
  have hsf1 : ∀ (ad : Addr) (m : Mode) (z : World), (store ad (.func (.func 105) #[.pointer (some ⟨p, 0, none⟩)] #[]) m).run Tryz.prog z = stored Tryz.prog z ad (.func (.func 105) #[.pointer (some ⟨p, 0, none⟩)] #[]) m := fun ad m z => run_store _ _ _ _ _ rfl
  have hsf2 : ∀ (ad : Addr) (m : Mode) (z : World), (store ad (.func (.func 106) #[.pointer (some ⟨p, 0, none⟩)] #[]) m).run Tryz.prog z = stored Tryz.prog z ad (.func (.func 106) #[.pointer (some ⟨p, 0, none⟩)] #[]) m := fun ad m z => run_store _ _ _ _ _ rfl
  obtain rfl : j = 0 := by omega
  focus
   go_wp2_with (go_at_call 104; refine (unhide (hCC _ (by first | exact ((unhide HNX) _).2 | exact (unhide HBB)))).mono ?_; rintro r z ⟨rfl, k1⟩; replace k1 := hide k1)
   go_ret
   exact ⟨rfl, (unhide k1).behind (by first | exact ((unhide HNX) _).2 | exact (unhide HBB))⟩
set_option maxRecDepth 100000 in
set_option maxHeartbeats 4000000 in
theorem agDeliver_1b (H : PaAt w p g0 a.ticks a.welcome a.fenced free sh st c) (hs : AlvW op st a free pl) (O : OnAg a st.opening g0 free sh pl) (bs : Value) (k e s q : Int) (b : ByteArray) (hk : k = 4)
  (hDec : ∀ y, Below w.heap.size w y → Calls Tryz.prog 54 #[bs] y fun r z => r = .returned (.tuple #[.agg #[.int .i64 k, .int .i64 e, .int .i64 s, .int .i64 q, .string b], .int .i64 0]) ∧ Below y.heap.size y z)
  (hC : ∀ y, Below w.heap.size w y → Calls Tryz.prog 105 #[ptrTo p, .agg #[.int .i64 4, .int .i64 e, .int .i64 s, .int .i64 q, .string b]] y fun r z => r = .returned (.int .i64 0) ∧ AgIs3 op y z p a2 c) :
  Calls Tryz.prog 57 #[ptrTo p, bs] w fun r z => r = .returned (.int .i64 0) ∧ AgIs3 op w z p a2 c := by
 have c0 : w.cell? ⟨p, 0, none⟩ = some (ptrTo c.s) := by rw [blk_cell H.ks.blk, H.ks.a0]
 have hID := storeIsDead_any H.stt
 rw [hs.dead] at hID
 have HID := hide hID
 have HDC := hide (hDec w (Below.refl _ _))
 subst hk
 have hCC := fun y hy => hide (hC y hy)
 clear hC
 obtain ⟨ad, cap, hrv, hcap1, hcap2, hcells⟩ := H.rl.shape
 obtain ⟨g, o, rfl, hcl⟩ := hcells (by omega)
 have r0 : w.cell? ⟨g, o, none⟩ = some (.int .i64 2) := by have := hcl 0 (by omega); simpa [agRules] using this
 have r1 : w.cell? ⟨g, o + 1, none⟩ = some (.func (.func 104) #[ptrTo p] #[]) := by have := hcl 1 (by omega); simpa [agRules] using this
 have r2 : w.cell? ⟨g, o + 2, none⟩ = some (.int .i64 4) := by have := hcl 2 (by omega); simpa [agRules] using this
 have r3 : w.cell? ⟨g, o + 2 + 1, none⟩ = some (.func (.func 105) #[ptrTo p] #[]) := by have := hcl 3 (by omega); simpa [agRules] using this
 have r4 : w.cell? ⟨g, o + 4, none⟩ = some (.int .i64 5) := by have := hcl 4 (by omega); simpa [agRules] using this
 have r5 : w.cell? ⟨g, o + 4 + 1, none⟩ = some (.func (.func 106) #[ptrTo p] #[]) := by have := hcl 5 (by omega); simpa [agRules] using this
 have c26 : w.cell? ⟨p, 26, none⟩ = some (.slice (some ⟨g, o, none⟩) 3 cap) := by rw [blk_cell H.ks.blk, H.ks.ar, hrv]
 have hgl : g < w.heap.size := World.block_lt_of_cell? _ _ r0
 have hpl := lt_of_block H.ks.blk
 have HST := hide (agIs3_refl H hs O)
 clear H hID hDec hcl hcells hrv
 unfold ptrTo at *
 go_enter Tryz.func57, Tryz.ntmps57
 go_upto_region 4 with (first | (go_at_call 86; refine (unhide HID).mono ?_; rintro r y ⟨rfl, hyw⟩; obtain rfl : w = y := hyw.symm) | (go_at_call 54; refine (unhide HDC).mono ?_; rintro r y ⟨rfl, hb⟩))
 obtain ⟨g6, hg6⟩ : ∃ g6, g6 = y.heap.size := ⟨_, rfl⟩
 have hgw : w.heap.size ≤ g6 := by have := hb.size; omega
 have HG6 := hide hg6
 have HB := hide hb
 rw [← hg6]
 clear hg6 hb
 refine wp_world (fun u => u.heap[g6]? = some (.cells #[.int .i64 4, .int .i64 e, .int .i64 s, .int .i64 q, .string b] 41 (0, 0)) ∧ Below w.heap.size w u) ?_ ?_
 ·rw [unhide HG6]
  exact ⟨heap_alloc_new _ _, (unhide HB).alloc (unhide HB).size _⟩
 clear HG6 HB c0 HDC HID
 rintro u ⟨h6, hbu⟩
 have d26 := (hbu.cell (p := ⟨p, 26, none⟩) hpl).trans c26
 have H6 := hide h6
 have HU := hide hbu
 clear h6 hbu c26
 go_wp2
 go_loopw [8, 27] (fun _ i wr => ∃ j : Nat, j ≤ 1 ∧ i = .int .i64 j ∧ wr.heap[g6]? = some (.cells #[.int .i64 4, .int .i64 e, .int .i64 s, .int .i64 q, .string b] 41 (0, 0)) ∧ Below w.heap.size w wr) (fun _ i _ => 4 - (intOf i).toNat)
 case atStart => exact ⟨0, by omega, rfl, unhide H6, unhide HU⟩
 case round =>
  obtain ⟨j, hj, rfl, h6, hb⟩ := hrel
  clear H6 HU d26
  have s0 := (hb.cell (p := ⟨g, o, none⟩) hgl).trans r0
  have s1 := (hb.cell (p := ⟨g, o + 1, none⟩) hgl).trans r1
  have s2 := (hb.cell (p := ⟨g, o + 2, none⟩) hgl).trans r2
  have s3 := (hb.cell (p := ⟨g, o + 2 + 1, none⟩) hgl).trans r3
  have s4 := (hb.cell (p := ⟨g, o + 4, none⟩) hgl).trans r4
  have s5 := (hb.cell (p := ⟨g, o + 4 + 1, none⟩) hgl).trans r5
  have y0 := blk_cell (i := 0) h6
  have y1 := blk_cell (i := 1) h6
  have y2 := blk_cell (i := 2) h6
  have y3 := blk_cell (i := 3) h6
  have y4 := blk_cell (i := 4) h6
  simp at y0 y1 y2 y3 y4
  have h6l := lt_of_block h6
  have HH6 := hide h6
  have HBB := hide hb
  have hnext : ∀ ob, (wr.alloc ob).heap[g6]? = some (.cells #[.int .i64 4, .int .i64 e, .int .i64 s, .int .i64 q, .string b] 41 (0, 0)) ∧ Below w.heap.size w (wr.alloc ob) := fun ob => ⟨(hao _ _ h6l).trans h6, hb.alloc hb.size _⟩
  have HNX := hide hnext
  clear h6 hb hnext r0 r1 r2 r3 r4 r5
  have hsf0 : ∀ (ad : Addr) (m : Mode) (z : World), (store ad (.func (.func 104) #[.pointer (some ⟨p, 0, none⟩)] #[]) m).run Tryz.prog z = stored Tryz.prog z ad (.func (.func 104) #[.pointer (some ⟨p, 0, none⟩)] #[]) m := fun ad m z => run_store _ _ _ _ _ rfl
  have hsf1 : ∀ (ad : Addr) (m : Mode) (z : World), (store ad (.func (.func 105) #[.pointer (some ⟨p, 0, none⟩)] #[]) m).run Tryz.prog z = stored Tryz.prog z ad (.func (.func 105) #[.pointer (some ⟨p, 0, none⟩)] #[]) m := fun ad m z => run_store _ _ _ _ _ rfl
  have hsf2 : ∀ (ad : Addr) (m : Mode) (z : World), (store ad (.func (.func 106) #[.pointer (some ⟨p, 0, none⟩)] #[]) m).run Tryz.prog z = stored Tryz.prog z ad (.func (.func 106) #[.pointer (some ⟨p, 0, none⟩)] #[]) m := fun ad m z => run_store _ _ _ _ _ rfl
  rcases (show j = 0 ∨ j = 1 by omega) with rfl | rfl
  focus
   go_wp2
   exact ⟨⟨1, by omega, by go_num, (unhide HNX) _⟩, by simp [intOf]⟩
  focus
   go_wp2_with (go_at_call 105; refine (unhide (hCC _ (by first | exact ((unhide HNX) _).2 | exact (unhide HBB)))).mono ?_; rintro r z ⟨rfl, k1⟩; replace k1 := hide k1)
   go_ret
   exact ⟨rfl, (unhide k1).behind (by first | exact ((unhide HNX) _).2 | exact (unhide HBB))⟩
set_option maxRecDepth 100000 in
set_option maxHeartbeats 4000000 in
theorem agDeliver_2b (H : PaAt w p g0 a.ticks a.welcome a.fenced free sh st c) (hs : AlvW op st a free pl) (O : OnAg a st.opening g0 free sh pl) (bs : Value) (k e s q : Int) (b : ByteArray) (hk : k = 5)
  (hDec : ∀ y, Below w.heap.size w y → Calls Tryz.prog 54 #[bs] y fun r z => r = .returned (.tuple #[.agg #[.int .i64 k, .int .i64 e, .int .i64 s, .int .i64 q, .string b], .int .i64 0]) ∧ Below y.heap.size y z)
  (hC : ∀ y, Below w.heap.size w y → Calls Tryz.prog 106 #[ptrTo p, .agg #[.int .i64 5, .int .i64 e, .int .i64 s, .int .i64 q, .string b]] y fun r z => r = .returned (.int .i64 0) ∧ AgIs3 op y z p a2 c) :
  Calls Tryz.prog 57 #[ptrTo p, bs] w fun r z => r = .returned (.int .i64 0) ∧ AgIs3 op w z p a2 c := by
 have c0 : w.cell? ⟨p, 0, none⟩ = some (ptrTo c.s) := by rw [blk_cell H.ks.blk, H.ks.a0]
 have hID := storeIsDead_any H.stt
 rw [hs.dead] at hID
 have HID := hide hID
 have HDC := hide (hDec w (Below.refl _ _))
 subst hk
 have hCC := fun y hy => hide (hC y hy)
 clear hC
 obtain ⟨ad, cap, hrv, hcap1, hcap2, hcells⟩ := H.rl.shape
 obtain ⟨g, o, rfl, hcl⟩ := hcells (by omega)
 have r0 : w.cell? ⟨g, o, none⟩ = some (.int .i64 2) := by have := hcl 0 (by omega); simpa [agRules] using this
 have r1 : w.cell? ⟨g, o + 1, none⟩ = some (.func (.func 104) #[ptrTo p] #[]) := by have := hcl 1 (by omega); simpa [agRules] using this
 have r2 : w.cell? ⟨g, o + 2, none⟩ = some (.int .i64 4) := by have := hcl 2 (by omega); simpa [agRules] using this
 have r3 : w.cell? ⟨g, o + 2 + 1, none⟩ = some (.func (.func 105) #[ptrTo p] #[]) := by have := hcl 3 (by omega); simpa [agRules] using this
 have r4 : w.cell? ⟨g, o + 4, none⟩ = some (.int .i64 5) := by have := hcl 4 (by omega); simpa [agRules] using this
 have r5 : w.cell? ⟨g, o + 4 + 1, none⟩ = some (.func (.func 106) #[ptrTo p] #[]) := by have := hcl 5 (by omega); simpa [agRules] using this
 have c26 : w.cell? ⟨p, 26, none⟩ = some (.slice (some ⟨g, o, none⟩) 3 cap) := by rw [blk_cell H.ks.blk, H.ks.ar, hrv]
 have hgl : g < w.heap.size := World.block_lt_of_cell? _ _ r0
 have hpl := lt_of_block H.ks.blk
 have HST := hide (agIs3_refl H hs O)
 clear H hID hDec hcl hcells hrv
 unfold ptrTo at *
 go_enter Tryz.func57, Tryz.ntmps57
 go_upto_region 4 with (first | (go_at_call 86; refine (unhide HID).mono ?_; rintro r y ⟨rfl, hyw⟩; obtain rfl : w = y := hyw.symm) | (go_at_call 54; refine (unhide HDC).mono ?_; rintro r y ⟨rfl, hb⟩))
 obtain ⟨g6, hg6⟩ : ∃ g6, g6 = y.heap.size := ⟨_, rfl⟩
 have hgw : w.heap.size ≤ g6 := by have := hb.size; omega
 have HG6 := hide hg6
 have HB := hide hb
 rw [← hg6]
 clear hg6 hb
 refine wp_world (fun u => u.heap[g6]? = some (.cells #[.int .i64 5, .int .i64 e, .int .i64 s, .int .i64 q, .string b] 41 (0, 0)) ∧ Below w.heap.size w u) ?_ ?_
 ·rw [unhide HG6]
  exact ⟨heap_alloc_new _ _, (unhide HB).alloc (unhide HB).size _⟩
 clear HG6 HB c0 HDC HID
 rintro u ⟨h6, hbu⟩
 have d26 := (hbu.cell (p := ⟨p, 26, none⟩) hpl).trans c26
 have H6 := hide h6
 have HU := hide hbu
 clear h6 hbu c26
 go_wp2
 go_loopw [8, 27] (fun _ i wr => ∃ j : Nat, j ≤ 2 ∧ i = .int .i64 j ∧ wr.heap[g6]? = some (.cells #[.int .i64 5, .int .i64 e, .int .i64 s, .int .i64 q, .string b] 41 (0, 0)) ∧ Below w.heap.size w wr) (fun _ i _ => 4 - (intOf i).toNat)
 case atStart => exact ⟨0, by omega, rfl, unhide H6, unhide HU⟩
 case round =>
  obtain ⟨j, hj, rfl, h6, hb⟩ := hrel
  clear H6 HU d26
  have s0 := (hb.cell (p := ⟨g, o, none⟩) hgl).trans r0
  have s1 := (hb.cell (p := ⟨g, o + 1, none⟩) hgl).trans r1
  have s2 := (hb.cell (p := ⟨g, o + 2, none⟩) hgl).trans r2
  have s3 := (hb.cell (p := ⟨g, o + 2 + 1, none⟩) hgl).trans r3
  have s4 := (hb.cell (p := ⟨g, o + 4, none⟩) hgl).trans r4
  have s5 := (hb.cell (p := ⟨g, o + 4 + 1, none⟩) hgl).trans r5
  have y0 := blk_cell (i := 0) h6
  have y1 := blk_cell (i := 1) h6
  have y2 := blk_cell (i := 2) h6
  have y3 := blk_cell (i := 3) h6
  have y4 := blk_cell (i := 4) h6
  simp at y0 y1 y2 y3 y4
  have h6l := lt_of_block h6
  have HH6 := hide h6
  have HBB := hide hb
  have hnext : ∀ ob, (wr.alloc ob).heap[g6]? = some (.cells #[.int .i64 5, .int .i64 e, .int .i64 s, .int .i64 q, .string b] 41 (0, 0)) ∧ Below w.heap.size w (wr.alloc ob) := fun ob => ⟨(hao _ _ h6l).trans h6, hb.alloc hb.size _⟩
  have HNX := hide hnext
  clear h6 hb hnext r0 r1 r2 r3 r4 r5
  have hsf0 : ∀ (ad : Addr) (m : Mode) (z : World), (store ad (.func (.func 104) #[.pointer (some ⟨p, 0, none⟩)] #[]) m).run Tryz.prog z = stored Tryz.prog z ad (.func (.func 104) #[.pointer (some ⟨p, 0, none⟩)] #[]) m := fun ad m z => run_store _ _ _ _ _ rfl
  have hsf1 : ∀ (ad : Addr) (m : Mode) (z : World), (store ad (.func (.func 105) #[.pointer (some ⟨p, 0, none⟩)] #[]) m).run Tryz.prog z = stored Tryz.prog z ad (.func (.func 105) #[.pointer (some ⟨p, 0, none⟩)] #[]) m := fun ad m z => run_store _ _ _ _ _ rfl
  have hsf2 : ∀ (ad : Addr) (m : Mode) (z : World), (store ad (.func (.func 106) #[.pointer (some ⟨p, 0, none⟩)] #[]) m).run Tryz.prog z = stored Tryz.prog z ad (.func (.func 106) #[.pointer (some ⟨p, 0, none⟩)] #[]) m := fun ad m z => run_store _ _ _ _ _ rfl
  rcases (show j = 0 ∨ j = 1 ∨ j = 2 by omega) with rfl | rfl | rfl
  focus
   go_wp2
   exact ⟨⟨1, by omega, by go_num, (unhide HNX) _⟩, by simp [intOf]⟩
  focus
   go_wp2
   exact ⟨⟨2, by omega, by go_num, (unhide HNX) _⟩, by simp [intOf]⟩
  focus
   go_wp2_with (go_at_call 106; refine (unhide (hCC _ (by first | exact ((unhide HNX) _).2 | exact (unhide HBB)))).mono ?_; rintro r z ⟨rfl, k1⟩; replace k1 := hide k1)
   go_ret
   exact ⟨rfl, (unhide k1).behind (by first | exact ((unhide HNX) _).2 | exact (unhide HBB))⟩
set_option maxRecDepth 100000 in
set_option maxHeartbeats 4000000 in
theorem agDeliver_none2 (H : PaAt w p g0 a.ticks a.welcome a.fenced free sh st c) (hs : AlvW op st a free pl) (O : OnAg a st.opening g0 free sh pl) (bs : Value) (k e s q : Int) (b : ByteArray) (k2 : k ≠ 2) (k4 : k ≠ 4) (k5 : k ≠ 5)
  (hDec : ∀ y, Below w.heap.size w y → Calls Tryz.prog 54 #[bs] y fun r z => r = .returned (.tuple #[.agg #[.int .i64 k, .int .i64 e, .int .i64 s, .int .i64 q, .string b], .int .i64 0]) ∧ Below y.heap.size y z) :
  Calls Tryz.prog 57 #[ptrTo p, bs] w fun r z => r = .returned (.int .i64 0) ∧ AgIs3 op w z p a c := by
 have c0 : w.cell? ⟨p, 0, none⟩ = some (ptrTo c.s) := by rw [blk_cell H.ks.blk, H.ks.a0]
 have hID := storeIsDead_any H.stt
 rw [hs.dead] at hID
 have HID := hide hID
 have HDC := hide (hDec w (Below.refl _ _))
 have e2 : ((2 : Int) == k) = false := by simp; omega
 have e4 : ((4 : Int) == k) = false := by simp; omega
 have e5 : ((5 : Int) == k) = false := by simp; omega
 obtain ⟨ad, cap, hrv, hcap1, hcap2, hcells⟩ := H.rl.shape
 obtain ⟨g, o, rfl, hcl⟩ := hcells (by omega)
 have r0 : w.cell? ⟨g, o, none⟩ = some (.int .i64 2) := by have := hcl 0 (by omega); simpa [agRules] using this
 have r1 : w.cell? ⟨g, o + 1, none⟩ = some (.func (.func 104) #[ptrTo p] #[]) := by have := hcl 1 (by omega); simpa [agRules] using this
 have r2 : w.cell? ⟨g, o + 2, none⟩ = some (.int .i64 4) := by have := hcl 2 (by omega); simpa [agRules] using this
 have r3 : w.cell? ⟨g, o + 2 + 1, none⟩ = some (.func (.func 105) #[ptrTo p] #[]) := by have := hcl 3 (by omega); simpa [agRules] using this
 have r4 : w.cell? ⟨g, o + 4, none⟩ = some (.int .i64 5) := by have := hcl 4 (by omega); simpa [agRules] using this
 have r5 : w.cell? ⟨g, o + 4 + 1, none⟩ = some (.func (.func 106) #[ptrTo p] #[]) := by have := hcl 5 (by omega); simpa [agRules] using this
 have c26 : w.cell? ⟨p, 26, none⟩ = some (.slice (some ⟨g, o, none⟩) 3 cap) := by rw [blk_cell H.ks.blk, H.ks.ar, hrv]
 have hgl : g < w.heap.size := World.block_lt_of_cell? _ _ r0
 have hpl := lt_of_block H.ks.blk
 have HST := hide (agIs3_refl H hs O)
 clear H hID hDec hcl hcells hrv
 unfold ptrTo at *
 go_enter Tryz.func57, Tryz.ntmps57
 go_upto_region 4 with (first | (go_at_call 86; refine (unhide HID).mono ?_; rintro r y ⟨rfl, hyw⟩; obtain rfl : w = y := hyw.symm) | (go_at_call 54; refine (unhide HDC).mono ?_; rintro r y ⟨rfl, hb⟩))
 obtain ⟨g6, hg6⟩ : ∃ g6, g6 = y.heap.size := ⟨_, rfl⟩
 have hgw : w.heap.size ≤ g6 := by have := hb.size; omega
 have HG6 := hide hg6
 have HB := hide hb
 rw [← hg6]
 clear hg6 hb
 refine wp_world (fun u => u.heap[g6]? = some (.cells #[.int .i64 k, .int .i64 e, .int .i64 s, .int .i64 q, .string b] 41 (0, 0)) ∧ Below w.heap.size w u) ?_ ?_
 ·rw [unhide HG6]
  exact ⟨heap_alloc_new _ _, (unhide HB).alloc (unhide HB).size _⟩
 clear HG6 HB c0 HDC HID
 rintro u ⟨h6, hbu⟩
 have d26 := (hbu.cell (p := ⟨p, 26, none⟩) hpl).trans c26
 have H6 := hide h6
 have HU := hide hbu
 clear h6 hbu c26
 go_wp2
 go_loopw [8, 27] (fun _ i wr => ∃ j : Nat, j ≤ 3 ∧ i = .int .i64 j ∧ wr.heap[g6]? = some (.cells #[.int .i64 k, .int .i64 e, .int .i64 s, .int .i64 q, .string b] 41 (0, 0)) ∧ Below w.heap.size w wr) (fun _ i _ => 4 - (intOf i).toNat)
 case atStart => exact ⟨0, by omega, rfl, unhide H6, unhide HU⟩
 case round =>
  obtain ⟨j, hj, rfl, h6, hb⟩ := hrel
  clear H6 HU d26
  have s0 := (hb.cell (p := ⟨g, o, none⟩) hgl).trans r0
  have s1 := (hb.cell (p := ⟨g, o + 1, none⟩) hgl).trans r1
  have s2 := (hb.cell (p := ⟨g, o + 2, none⟩) hgl).trans r2
  have s3 := (hb.cell (p := ⟨g, o + 2 + 1, none⟩) hgl).trans r3
  have s4 := (hb.cell (p := ⟨g, o + 4, none⟩) hgl).trans r4
  have s5 := (hb.cell (p := ⟨g, o + 4 + 1, none⟩) hgl).trans r5
  have y0 := blk_cell (i := 0) h6
  have y1 := blk_cell (i := 1) h6
  have y2 := blk_cell (i := 2) h6
  have y3 := blk_cell (i := 3) h6
  have y4 := blk_cell (i := 4) h6
  simp at y0 y1 y2 y3 y4
  have h6l := lt_of_block h6
  have HH6 := hide h6
  have HBB := hide hb
  have hnext : ∀ ob, (wr.alloc ob).heap[g6]? = some (.cells #[.int .i64 k, .int .i64 e, .int .i64 s, .int .i64 q, .string b] 41 (0, 0)) ∧ Below w.heap.size w (wr.alloc ob) := fun ob => ⟨(hao _ _ h6l).trans h6, hb.alloc hb.size _⟩
  have HNX := hide hnext
  clear h6 hb hnext r0 r1 r2 r3 r4 r5
  have hsf0 : ∀ (ad : Addr) (m : Mode) (z : World), (store ad (.func (.func 104) #[.pointer (some ⟨p, 0, none⟩)] #[]) m).run Tryz.prog z = stored Tryz.prog z ad (.func (.func 104) #[.pointer (some ⟨p, 0, none⟩)] #[]) m := fun ad m z => run_store _ _ _ _ _ rfl
  have hsf1 : ∀ (ad : Addr) (m : Mode) (z : World), (store ad (.func (.func 105) #[.pointer (some ⟨p, 0, none⟩)] #[]) m).run Tryz.prog z = stored Tryz.prog z ad (.func (.func 105) #[.pointer (some ⟨p, 0, none⟩)] #[]) m := fun ad m z => run_store _ _ _ _ _ rfl
  have hsf2 : ∀ (ad : Addr) (m : Mode) (z : World), (store ad (.func (.func 106) #[.pointer (some ⟨p, 0, none⟩)] #[]) m).run Tryz.prog z = stored Tryz.prog z ad (.func (.func 106) #[.pointer (some ⟨p, 0, none⟩)] #[]) m := fun ad m z => run_store _ _ _ _ _ rfl
  rcases (show j = 0 ∨ j = 1 ∨ j = 2 ∨ j = 3 by omega) with rfl | rfl | rfl | rfl
  focus
   go_wp2
   exact ⟨⟨1, by omega, by go_num, (unhide HNX) _⟩, by simp [intOf]⟩
  focus
   go_wp2
   exact ⟨⟨2, by omega, by go_num, (unhide HNX) _⟩, by simp [intOf]⟩
  focus
   go_wp2
   exact ⟨⟨3, by omega, by go_num, (unhide HNX) _⟩, by simp [intOf]⟩
  focus
   go_wp2
   go_ret
   exact ⟨rfl, (unhide HST).below (unhide HBB)⟩
end
section
variable {w : World} {p : Nat} {g0 : Nat → Nat} {free : List Nat} {sh : Nat → List (Nat × Value)} {st : Mod.Stv} {c : Av} {a : Mod.Ag} {pl : Nat → List Nat} {op : Nat}
theorem agDeliver_any2 (H : PaAt w p g0 a.ticks a.welcome a.fenced free sh st c) (hs : AlvW op st a free pl) (O : OnAg a st.opening g0 free sh pl) (hbnd : ∀ i, i < 3 → (a.fl i).base + (a.fl i).kept.length ≤ 1000000000) (bs : Value) (l : List UInt8) (hat : BytesAt w bs l) :
  Calls Tryz.prog 57 #[ptrTo p, bs] w fun r z => r = .returned (.int .i64 (agSays a l).1) ∧ AgIs3 op w z p (agSays a l).2 c := by
 cases hr : Wire.reads l
 ·rw [agSays_no hr]
  exact agDeliver_no2 H hs O bs l hat hr
 ·have hpr := reads_proper hr
  obtain ⟨k, e, s, q, b, h1, h2, h3, h4, h5, g1, g2, g3, g4⟩ := reads_parts hr
  rw [agSays_yes hr h1 h2 h3 h4 h5]
  rw [h1, h2, h3, h4, h5] at hpr
  have hDec : ∀ y, Below w.heap.size w y → Calls Tryz.prog 54 #[bs] y fun r z => r = .returned (.tuple #[.agg #[.int .i64 k, .int .i64 e, .int .i64 s, .int .i64 q, .string b], .int .i64 0]) ∧ Below y.heap.size y z := fun y hy => by
   have := decode_any bs l y (hat.below hy)
   rw [hr] at this
   simp only [if_true, frVal, h1, h2, h3, h4, h5] at this
   exact this
  have HY := fun y (hy : Below w.heap.size w y) => H.below hy
  by_cases k2 : k = 2
  ·refine agDeliver_0b H hs O bs k e s q b k2 hDec (fun y hy => ?_)
   subst k2
   by_cases he : e = a.epoch
   ·exact obeyWelcome_yes2 (HY y hy) hs O e s q b he (proper_2 hpr) hbnd
   ·refine (obeyWelcome_no (HY y hy) O e s q b he).mono ?_
    rintro r z ⟨rfl, hb⟩
    rw [show a.deliver 2 e s q b = a by unfold Mod.Ag.deliver; rw [if_neg (by omega), if_pos (by omega)]]
    exact ⟨rfl, (agIs3_refl (HY y hy) hs O).below hb⟩
  ·by_cases k4 : k = 4
   ·refine agDeliver_1b H hs O bs k e s q b k4 hDec (fun y hy => ?_)
    subst k4
    by_cases he : e = a.epoch ∧ a.welcome = true
    ·exact obeyAck_do2 (HY y hy) hs O e s q b he.1 he.2 g2 (by have := (proper_4 hpr).1; omega) hbnd
    ·refine (obeyAck_skip (HY y hy) O e s q b ?_).mono ?_
     ·by_cases h : e = a.epoch
      ·right
       cases hw : a.welcome
       ·rfl
       ·exact absurd ⟨h, hw⟩ he
      ·exact .inl h
     rintro r z ⟨rfl, hb⟩
     have : a.deliver 4 e s q b = a := by
      unfold Mod.Ag.deliver
      rw [if_neg (by omega)]
      by_cases h : e = a.epoch
      ·rw [if_neg (by omega), if_neg (by omega), if_neg (by omega), if_pos rfl]
       cases hw : a.welcome
       ·rw [if_pos (.inl (by simp))]
       ·exact absurd ⟨h, hw⟩ he
      ·rw [if_pos (by omega)]
     rw [this]
     exact ⟨rfl, (agIs3_refl (HY y hy) hs O).below hb⟩
   ·by_cases k5 : k = 5
    ·refine agDeliver_2b H hs O bs k e s q b k5 hDec (fun y hy => ?_)
     subst k5
     exact obeyReset_any2 (HY y hy) hs O e s q b
    ·have : a.deliver k e s q b = a := by
      unfold Mod.Ag.deliver
      rw [if_neg (by omega)]
      by_cases h : e = a.epoch
      ·rw [if_neg (by omega), if_neg (by omega), if_neg (by omega), if_neg (by omega)]
      ·rw [if_pos (by omega)]
     rw [this]
     exact agDeliver_none2 H hs O bs k e s q b k2 k4 k5 hDec
end
end Go.Proofs.YtamafdcnbcoegaaGreat
namespace Go.Proofs.YtamafdcnbcoegaaGreat
open Go.RowKit
theorem tick_same_w (a : Mod.Ag) (i : Nat) : (a.tick.1.fl i).base = (a.fl i).base ∧ (a.tick.1.fl i).kept.map (·.1) = (a.fl i).kept.map (·.1) := by
 unfold Mod.Ag.tick
 split
 ·exact ⟨rfl, rfl⟩
 ·split
  ·exact ⟨rfl, rfl⟩
  ·simp only
   unfold Mod.sendFl
   split
   ·exact ⟨rfl, sendTo_fst _ _ _ _ _⟩
   ·exact ⟨rfl, rfl⟩
def AgOut2 (op : Nat) (w z : World) (p : Nat) (a' : Mod.Ag) (c : Av) (lv : Value) (fs : List Value) (F : List ByteArray) : Prop :=
 ∃ c', FramesOut w.heap.size z lv fs F (PaU p c') ∧ (∃ g free sh pl st, PaAt z p g a'.ticks a'.welcome a'.fenced free sh st c' ∧ AlvW op st a' free pl ∧ OnAg a' st.opening g free sh pl) ∧ Far (PaU p c) w z ∧ (∀ k, PaU p c' k → PaU p c k ∨ w.heap.size ≤ k) ∧ c'.s = c.s ∧ c'.rv = c.rv
section
variable {w : World} {p : Nat} {g : Nat → Nat} {free : List Nat} {sh : Nat → List (Nat × Value)} {st : Mod.Stv} {c : Av} {a : Mod.Ag} {pl : Nat → List Nat} {op : Nat}
set_option maxRecDepth 100000 in
set_option maxHeartbeats 4000000 in
theorem agTick_fenced2 (H : PaAt w p g a.ticks a.welcome a.fenced free sh st c) (hs : AlvW op st a free pl) (O : OnAg a st.opening g free sh pl) (htk : a.ticks ≤ 1000000000) (hf : a.fenced = true) :
  Calls Tryz.prog 53 #[ptrTo p] w fun r z => r = .returned (.slice none 0 0) ∧ AgIs3 op w z p a.tick.1 c := by
 have ht : a.tick.1 = { a with ticks := a.ticks + 1 } := by unfold Mod.Ag.tick; rw [if_pos hf]
 rw [ht]
 have c23 : w.cell? ⟨p, 23, none⟩ = some (.int .i64 a.ticks) := by rw [blk_cell H.ks.blk, H.ks.at']
 have f23 : w.frozen? ⟨p, 23, none⟩ = false := blk_free (i := 23) H.ks.blk
 obtain ⟨t2, ht2⟩ : ∃ t2, t2 = a.ticks + 1 := ⟨_, rfl⟩
 rw [← ht2]
 have HT := hide ht2
 have HH := hide (And.intro H (And.intro hs O))
 clear H O hs ht ht2
 unfold ptrTo at *
 go_enter Tryz.func53, Tryz.ntmps53
 go_upto_region 2 with fail
 refine wp_world (fun x => PaStep w x p g t2 a.welcome a.fenced free sh st c) ?_ ?_
 ·rw [show ((a.ticks : Int) + 1) = ((t2 : Nat) : Int) by have := unhide HT; omega]
  exact paStep_tick (unhide HH).1 t2
 clear c23 f23
 rintro x hst
 obtain ⟨c1, K1, F1, N1, s1, s2⟩ := hst
 have d25 : x.cell? ⟨p, 25, none⟩ = some (.bool true) := by rw [blk_cell K1.ks.blk, K1.ks.ae, hf]
 have HS := hide (⟨c1, K1, F1, N1, s1, s2⟩ : PaStep w x p g t2 a.welcome a.fenced free sh st c)
 clear K1 F1 N1 s1 s2
 go_wp2
 go_ret
 exact ⟨rfl, g, free, sh, pl, st, unhide HS, (unhide HH).2.1.flags _ _ _, (unhide HH).2.2.flags t2 a.welcome a.fenced⟩
set_option maxRecDepth 100000 in
set_option maxHeartbeats 4000000 in
theorem agTick_hello2 (H : PaAt w p g a.ticks a.welcome a.fenced free sh st c) (hs : AlvW op st a free pl) (O : OnAg a st.opening g free sh pl) (htk : a.ticks ≤ 1000000000) (hep : a.epoch ≤ 2147483647) (hf : a.fenced = false) (hw : a.welcome = false) :
  Calls Tryz.prog 53 #[ptrTo p] w fun r z => ∃ lv fs x, r = .returned lv ∧ AgIs3 op w x p a.tick.1 c ∧ Below x.heap.size x z ∧ FramesOut x.heap.size z lv fs (a.tick.2.map fun l => ⟨l.toArray⟩) (fun _ => False) := by
 have ht : a.tick = ({ a with ticks := a.ticks + 1 }, [Wire.bytes 1 a.epoch 0 0 []]) := by unfold Mod.Ag.tick; rw [if_neg (by rw [hf]; decide), if_pos hw]
 rw [ht]
 simp only [List.map_cons, List.map_nil]
 have c23 : w.cell? ⟨p, 23, none⟩ = some (.int .i64 a.ticks) := by rw [blk_cell H.ks.blk, H.ks.at']
 have f23 : w.frozen? ⟨p, 23, none⟩ = false := blk_free (i := 23) H.ks.blk
 obtain ⟨t2, ht2⟩ : ∃ t2, t2 = a.ticks + 1 := ⟨_, rfl⟩
 rw [← ht2]
 have HT := hide ht2
 obtain ⟨ep, hep2⟩ : ∃ ep, ep = a.epoch := ⟨_, rfl⟩
 have hop : st.opening = ep := by rw [hep2]; exact O.ep
 rw [← hep2] at hep ⊢
 have hFB := fun y => hide (frameBytes_any 1 ep 0 0 ⟨#[]⟩ y (hello_proper ep hep))
 have HH := hide (And.intro H (And.intro hs O))
 have hsd := hs.dead
 have HEQ := hide hep2
 clear H O hs ht ht2 hep2
 unfold ptrTo at *
 go_enter Tryz.func53, Tryz.ntmps53
 go_upto_region 2 with fail
 refine wp_world (fun x => PaStep w x p g t2 a.welcome a.fenced free sh st c) ?_ ?_
 ·rw [show ((a.ticks : Int) + 1) = ((t2 : Nat) : Int) by have := unhide HT; omega]
  exact paStep_tick (unhide HH).1 t2
 clear c23 f23
 rintro x hst
 obtain ⟨c1, K1, F1, N1, s1, s2⟩ := hst
 have d25 : x.cell? ⟨p, 25, none⟩ = some (.bool false) := by rw [blk_cell K1.ks.blk, K1.ks.ae, hf]
 have d24 : x.cell? ⟨p, 24, none⟩ = some (.bool false) := by rw [blk_cell K1.ks.blk, K1.ks.aw, hw]
 have d0 : x.cell? ⟨p, 0, none⟩ = some (.pointer (some ⟨c1.s, 0, none⟩)) := by rw [blk_cell K1.ks.blk, K1.ks.a0]; rfl
 have hID := storeIsDead_any K1.stt
 rw [hsd] at hID
 have HID := hide hID
 have hEP := agEpoch_any K1
 rw [hop] at hEP
 have HEP := hide hEP
 have HS := hide (⟨c1, K1, F1, N1, s1, s2⟩ : PaStep w x p g t2 a.welcome a.fenced free sh st c)
 clear K1 F1 N1 s1 s2 hID hEP
 unfold ptrTo at *
 go_wp2_with (first | (go_at_call 86; refine (unhide HID).mono ?_; rintro r y ⟨rfl, hyw⟩; obtain rfl : x = y := hyw.symm) | (go_at_call 66; refine (unhide HEP).mono ?_; rintro r y ⟨rfl, hyw⟩; obtain rfl : x = y := hyw.symm) | (go_at_call 92; refine (unhide (hFB _)).mono ?_; rintro r v ⟨bv', rfl, hown, hb2⟩; obtain ⟨ad, cap, rfl, _⟩ := hown.shape; replace hown := hide hown; replace hb2 := hide hb2))
 go_ret
 have hbv := unhide hb2
 have ho := unhide hown
 have e := unhide HEQ
 subst e
 have hvx : x.heap.size ≤ v.heap.size := by have := hbv.size; first | omega | (simp at this; omega)
 exact ⟨_, _, x, rfl, ⟨g, free, sh, pl, st, unhide HS, (unhide HH).2.1.flags _ _ _, (unhide HH).2.2.flags t2 a.welcome a.fenced⟩, (by first | exact hbv.alloc hbv.size _ | exact (((Below.refl _ x).alloc (Nat.le_refl _) _).trans (hbv.mono (by simp))).alloc hvx _), framesOut_one (World.ownsRow.alloc (ho.mono (by omega)) _) hvx (heap_alloc_new _ _)⟩
set_option maxRecDepth 100000 in
set_option maxHeartbeats 8000000 in
theorem agTick_send2 (H : PaAt w p g a.ticks a.welcome a.fenced free sh st c) (hs : AlvW op st a free pl) (O : OnAg a st.opening g free sh pl) (htk : a.ticks ≤ 1000000000) (hbnd : ∀ i, i < 3 → (a.fl i).base + (a.fl i).kept.length < 4294967296) (hbod : ∀ i, i < 3 → ∀ x ∈ (a.fl i).kept, x.1.size ≤ 20 ∧ x.2 ≤ 1000000000000) (hf : a.fenced = false) (hw : a.welcome = true) :
  Calls Tryz.prog 53 #[ptrTo p] w fun r z => ∃ lv fs, r = .returned lv ∧ AgOut2 op w z p a.tick.1 c lv fs (a.tick.2.map fun l => ⟨l.toArray⟩) := by
 have c23 : w.cell? ⟨p, 23, none⟩ = some (.int .i64 a.ticks) := by rw [blk_cell H.ks.blk, H.ks.at']
 have f23 : w.frozen? ⟨p, 23, none⟩ = false := blk_free (i := 23) H.ks.blk
 obtain ⟨t2, ht2⟩ : ∃ t2, t2 = a.ticks + 1 := ⟨_, rfl⟩
 have hts := tick_same_w a
 rw [tick_send hf hw, ← ht2] at hts
 have HTS := hide hts
 clear hts
 rw [tick_send hf hw, ← ht2]
 have HT := hide ht2
 have HSD := fun (wr : World) (c2 : Av) (sh2 : Nat → List (Nat × Value)) (j : Nat) (hj : j < 3) (K : PaAt wr p g (tickAg a t2 j).ticks (tickAg a t2 j).welcome (tickAg a t2 j).fenced free sh2 st c2) (O2 : OnAg (tickAg a t2 j) st.opening g free sh2 pl) =>
  agSend_any K O2 j hj (by show t2 ≠ 0; omega) (by show t2 ≤ _; omega) (by rw [tickAg_fl]; exact hbnd j hj) (by rw [tickAg_fl]; exact hbod j hj)
 have HSEND := hide HSD
 have HH := hide (And.intro H (And.intro hs O))
 have hsd := hs.dead
 clear H O hs ht2 HSD hbnd hbod
 unfold ptrTo at *
 go_enter Tryz.func53, Tryz.ntmps53
 go_upto_region 2 with fail
 refine wp_world (fun x => PaStep w x p g t2 a.welcome a.fenced free sh st c) ?_ ?_
 ·rw [show ((a.ticks : Int) + 1) = ((t2 : Nat) : Int) by have := unhide HT; omega]
  exact paStep_tick (unhide HH).1 t2
 clear c23 f23
 rintro x hst
 obtain ⟨c1, K1, F1, N1, s1, s2⟩ := hst
 have d25 : x.cell? ⟨p, 25, none⟩ = some (.bool false) := by rw [blk_cell K1.ks.blk, K1.ks.ae, hf]
 have d24 : x.cell? ⟨p, 24, none⟩ = some (.bool true) := by rw [blk_cell K1.ks.blk, K1.ks.aw, hw]
 have d0 : x.cell? ⟨p, 0, none⟩ = some (.pointer (some ⟨c1.s, 0, none⟩)) := by rw [blk_cell K1.ks.blk, K1.ks.a0]; rfl
 have hID := storeIsDead_any K1.stt
 rw [hsd] at hID
 have HID := hide hID
 have HS := hide (⟨c1, K1, F1, N1, s1, s2⟩ : PaStep w x p g t2 a.welcome a.fenced free sh st c)
 clear K1 F1 N1 s1 s2 hID
 unfold ptrTo at *
 go_wp2_with (go_at_call 86; refine (unhide HID).mono ?_; rintro r y ⟨rfl, hyw⟩; obtain rfl : x = y := hyw.symm)
 go_loopw [3, 4, 33] (fun v _ i wr => ∃ j : Nat, j ≤ 3 ∧ i = .int .i64 j ∧ ∃ fs c2 sh2, FramesOut w.heap.size wr v fs (tickFr a t2 j) (PaU p c2) ∧ PaAt wr p g (tickAg a t2 j).ticks (tickAg a t2 j).welcome (tickAg a t2 j).fenced free sh2 st c2 ∧ OnAg (tickAg a t2 j) st.opening g free sh2 pl ∧ Far (PaU p c) w wr ∧ (∀ k, PaU p c2 k → PaU p c k ∨ w.heap.size ≤ k) ∧ c2.s = c.s ∧ c2.rv = c.rv) (fun _ _ i _ => 3 - (intOf i).toNat)
 case atStart =>
  obtain ⟨c2, K2, F2, N2, s1, s2⟩ := unhide HS
  refine ⟨0, by omega, rfl, [], c2, sh, ⟨rfl, World.ownsRow_nil _ _ _ _, (fun j v hj => by simp at hj), (fun i j u v hi => by simp at hi), fun k hk => ?_⟩, K2, ?_, F2, N2, s1, s2⟩
  ·rcases hk with h | ⟨j, hj, _⟩
   ·cases h
   ·simp at hj
  ·rw [tickAg_zero]
   exact (unhide HH).2.2.flags t2 a.welcome a.fenced
 case round =>
  obtain ⟨j, hj, rfl, fs, c2, sh2, m1, m2, m3, m4, m5, m6, m7⟩ := hrel
  clear HS HID d0 d24 d25
  by_cases hlt : j < 3
  ·have HSJ := hide ((unhide HSEND) wr c2 sh2 j hlt m2 m3)
   have hj0 : (0 : Int) ≤ (j : Int) := by omega
   have hj3 : (j : Int) < 3 := by omega
   have hcnt := tickFr_cnt a t2 j
   have hsc := sentFr_cnt (tickAg a t2 j) j (tickAg a t2 j).ticks
   obtain ⟨n1, hn1⟩ : ∃ n, n = fs.length := ⟨_, rfl⟩
   have hl1 : n1 ≤ 8 := by have := m1.len; omega
   have HN1 := hide hn1
   have hzw := m4.size
   have hrow1 := m1.row
   rw [← hn1] at hrow1
   obtain ⟨ad, cap, rfl, _⟩ := (own_rowO hrow1).shape
   have HR1 := hide hrow1
   clear hrow1 hn1 hcnt
   have HM := hide (And.intro m1 (And.intro m2 (And.intro m4 (And.intro m5 (And.intro m6 m7)))))
   clear m1 m2 m3 m4 m5 m6 m7
   unfold ptrTo at HSJ
   go_upto_region 10 with fail
   go_upto_region 11 with (first
    | (go_at_call 93; (refine (unhide HSJ).mono ?_; rintro r y ⟨lv2, fs2, c3, sh3, rfl, k1, k2, k3, k4, k5, k6, k7⟩; obtain ⟨n2, hn2⟩ : ∃ n, n = fs2.length := ⟨_, rfl⟩; have hl2 : n2 ≤ 4 := (by have := k1.len; omega); have hrow2 := k1.row; rw [← hn2] at hrow2; have HN2 := hide hn2; have hyz := k4.size; obtain ⟨ad2, cap2, e2, _⟩ := (own_rowO hrow2).shape; subst e2; have HR2 := hide hrow2; clear hrow2 hn2; have HK := hide (And.intro k1 (And.intro k2 (And.intro k3 (And.intro k4 (And.intro k5 (And.intro k6 k7)))))); clear k1 k2 k3 k4 k5 k6 k7))
    | (at_builtin; (refine wpList_cat_own rfl (.tmp 36) (.tmp 39) 38 rfl w.heap.size 44 (.slice none 0 0) 1 24 Tryz.underlying38 (by kernel_rfl) rfl (by decide) (.slice ad n1 cap) n1 fs (ownsRow_keep (unhide HR1) (fun k hk => (unhide HK).2.2.2.1.rest k ((unhide HM).1.lt k (.inl hk)).2 ((unhide HM).1.clear k (.inl hk)))) rfl wr.heap.size (.slice ad2 n2 cap2) n2 fs2 (unhide HR2) rfl (unhide HK).1.one (by unfold maxLen; omega) (by omega) (by omega) ?_; intro v' w1 hown' hgrow hat; obtain ⟨ad3, cap3, e3, _⟩ := (own_rowO hown').shape; subst e3; have HV := hide (And.intro hown' (And.intro hgrow hat)); clear hown' hgrow hat)))
   go_wp2
   go_roundw
   case rel =>
    obtain ⟨m1, m2, m4, m5, m6, m7⟩ := unhide HM
    obtain ⟨k1, k2, k3, k4, k5, k6, k7⟩ := unhide HK
    obtain ⟨q1, q2, q3⟩ := unhide HV
    have hF := framesOut_app (lv := .slice ad n1 cap) m1 k1 k4 k5 k2.lt m4.size (by rw [← unhide HN1, ← unhide HN2]; exact q1) q2 q3
    have hno : ∀ k, PaU p c3 k → ¬ (Value.slice ad n1 cap).ownBlock = some k := fun k hu e => by
     have h1 := m1.lt k (.inl e)
     rcases k5 k hu with h2 | h2
     ·exact m1.clear k (.inl e) h2
     ·omega
    have FG := far_grown q2
    refine ⟨j + 1, by omega, by go_num, fs ++ fs2, c3, sh3, ?_, k2.far FG (fun k hu e => hno k hu (by simpa using e)), ?_, (m4.trans k4 (fun k hk hu => ?_)).trans FG (fun k hk e => ?_), fun k hu => ?_, k6.trans m6, k7.trans m7⟩
    ·rw [tickFr_succ]
     exact hF
    ·have := k3
     rw [show (tickAg a t2 j).ticks = t2 from rfl, tickAg_succ] at this
     exact this
    ·rcases m5 k hu with h | h
     ·exact h
     ·omega
    ·have := (m1.lt k (.inl (by simpa using e))).1
     omega
    ·rcases k5 k hu with h | h
     ·exact m5 k h
     ·exact .inr (by omega)
   case measure => simp [intOf]; omega
  ·have hj3 : j = 3 := by omega
   subst hj3
   have HM := hide (And.intro m1 (And.intro m2 (And.intro m3 (And.intro m4 (And.intro m5 (And.intro m6 m7))))))
   obtain ⟨ad, cap, rfl, _⟩ := (own_rowO m1.row).shape
   clear m1 m2 m3 m4 m5 m6 m7
   go_wp2
   go_ret
   obtain ⟨m1, m2, m3, m4, m5, m6, m7⟩ := unhide HM
   exact ⟨_, fs, rfl, c2, m1, ⟨g, free, sh2, pl, st, m2, (unhide HH).2.1.same (fun i _ => (unhide HTS) i), m3⟩, m4, m5, m6, m7⟩
end
theorem agOut_of2 {op : Nat} {w x z : World} {p : Nat} {a' : Mod.Ag} {c : Av} {lv : Value} {fs : List Value} {F : List ByteArray} (h : AgIs3 op w x p a' c) (hb : Below x.heap.size x z) (hf : FramesOut x.heap.size z lv fs F (fun _ => False)) : AgOut2 op w z p a' c lv fs F := by
 obtain ⟨g, free, sh, pl, st, ⟨c', K, F', N, s1, s2⟩, hs, O⟩ := h
 exact ⟨c', hf.up F'.size K.lt, ⟨g, free, sh, pl, st, K.below hb, hs, O⟩, F'.trans (far_below hb) (fun _ _ h => h), N, s1, s2⟩
section
variable {w : World} {p : Nat} {g : Nat → Nat} {free : List Nat} {sh : Nat → List (Nat × Value)} {st : Mod.Stv} {c : Av} {a : Mod.Ag} {pl : Nat → List Nat} {op : Nat}
theorem agTick_any2 {N : Nat} (H : PaAt w p g a.ticks a.welcome a.fenced free sh st c) (hs : AlvW op st a free pl) (O : OnAg a st.opening g free sh pl) (G : AgGood N a) (hN : N < 1000000000) :
  Calls Tryz.prog 53 #[ptrTo p] w fun r z => ∃ lv fs, r = .returned lv ∧ AgOut2 op w z p a.tick.1 c lv fs (a.tick.2.map fun l => ⟨l.toArray⟩) := by
 have htk : a.ticks ≤ 1000000000 := by have := G.tk; omega
 cases hf : a.fenced with
 | true =>
  refine (agTick_fenced2 H hs O htk hf).mono ?_
  rintro r z ⟨rfl, h⟩
  have ht : a.tick.2 = [] := by unfold Mod.Ag.tick; rw [if_pos hf]
  rw [ht]
  exact ⟨_, [], rfl, agOut_of2 h (Below.refl _ _) ⟨rfl, World.ownsRow_nil _ _ _ _, (fun j v hj => by simp at hj), (fun i j u v hi => by simp at hi), fun k hk => fun h => h⟩⟩
 | false =>
  cases hw : a.welcome with
  | false =>
   refine (agTick_hello2 H hs O htk G.ep hf hw).mono ?_
   rintro r z ⟨lv, fs, x, rfl, h1, h2, h3⟩
   exact ⟨lv, fs, rfl, agOut_of2 h1 h2 h3⟩
  | true => exact agTick_send2 H hs O htk (fun i hi => by have := G.sum i hi; omega) (fun i hi x hx => ⟨(G.bod i hi x hx).1, by have := (G.bod i hi x hx).2; omega⟩) hf hw
end
end Go.Proofs.YtamafdcnbcoegaaGreat
namespace Go.Proofs.YtamafdcnbcoegaaGreat
open Go.RowKit
def CwAt (w : World) (v : Nat) (a : Mod.Ag) (U : Nat → Prop) : Prop := CyAt a.epoch (1 + wsum a) 0 w v a U
section
variable {N : Nat} {w w' : World} {v : Nat} {a : Mod.Ag} {U : Nat → Prop}
theorem cyAt_mono {op ct ct' n : Nat} (h : CyAt op ct n w v a U) (hc : ct ≤ ct') : CyAt op ct' n w v a U := by
 obtain ⟨p, g, free, sh, pl, st, c, hb, H, hs, O, rfl⟩ := h
 exact ⟨p, g, free, sh, pl, st, c, hb, H, ⟨hs.dead, hs.arm, hs.op, Nat.le_trans hs.ct hc, hs.dk⟩, O, rfl⟩
theorem cwAt_is {p : Nat} {c : Av} {z : World} {a' : Mod.Ag} (hb : w.heap[v]? = some (.cells #[ptrTo p] 90 (0, 0))) (hnv : ¬ PaU p c v) {op : Nat} (he : a'.epoch = op) (h : AgIs3 op w z p a' c) :
  ∃ U', CwAt z v a' U' ∧ Far (fun k => k = v ∨ PaU p c k) w z ∧ ∀ k, U' k → (k = v ∨ PaU p c k) ∨ w.heap.size ≤ k := by
 subst he
 obtain ⟨g, free, sh, pl, st, ⟨c', K, F', Nn, s1, s2⟩, hs, O⟩ := h
 refine ⟨_, ⟨p, g, free, sh, pl, st, c', F'.blk hb hnv, K, hs, O, rfl⟩, F'.mono (fun _ _ h => .inr h), ?_⟩
 rintro k (rfl | hk)
 ·exact .inl (.inl rfl)
 ·exact (Nn k hk).imp .inr id
theorem good_wsum (G : AgGood N a) (hN : N < 1000000000) : wsum a ≤ 12884901882 := wsum_le (fun i hi => by have := G.sum i hi; omega)
theorem wsum_submit {i : Int} {s : ByteArray} (h0 : a.refuses i s.size = 0) : 1 + wsum a + 1 ≤ 1 + wsum (agSubmits a i s) ∧ (agSubmits a i s).epoch = a.epoch := by
 obtain ⟨⟨h1, h2⟩, h3, h4⟩ := refuses_0 h0
 obtain ⟨m, rfl⟩ := Int.eq_ofNat_of_zero_le h1
 have hm : m < 3 := by omega
 have : agSubmits a (m : Int) s = a.submit m s := by unfold agSubmits; rw [if_pos h0]; rfl
 rw [this]
 refine ⟨?_, rfl⟩
 obtain rfl | rfl | rfl : m = 0 ∨ m = 1 ∨ m = 2 := by omega
 all_goals
  simp [wsum, Mod.Ag.submit, Mod.upd]
  omega
theorem cwSubmit (i : Int) (s : ByteArray) (h : CwAt w v a U) (G : AgGood N a) (hN : N < 1000000000) :
  Calls Tryz.prog 21 #[ptrTo v, .int .i64 i, .string s] w fun r w' =>
   ∃ U', r = .returned (.int .i64 (a.refuses i s.size)) ∧ CwAt w' v (agSubmits a i s) U' ∧ Far U w w' ∧ ∀ k, U' k → U k ∨ w.heap.size ≤ k := by
 by_cases h0 : a.refuses i s.size = 0
 ·obtain ⟨q1, q2⟩ := wsum_submit h0
  refine (cySubmit i s h G hN (by have := good_wsum G hN; omega) (by omega)).mono ?_
  rintro r y ⟨U', n', rfl, k0, k1, k2, k3⟩
  obtain rfl := k0 rfl
  refine ⟨U', rfl, ?_, k2, k3⟩
  unfold CwAt
  rw [q2]
  exact cyAt_mono k1 q1
 ·obtain ⟨p, g, free, sh, pl, st, c, hb, H, hs, O, rfl⟩ := h
  have c0 : w.cell? ⟨v, 0, none⟩ = some (ptrTo p) := blk_cell (i := 0) hb
  have hA := agSubmit_no2 H hs.dead O i s h0
  have e : agSubmits a i s = a := by unfold agSubmits; rw [if_neg h0]
  rw [e]
  have HA := hide hA
  have HB := hide (⟨p, g, free, sh, pl, st, c, hb, H, hs, O, rfl⟩ : CwAt w v a (fun k => k = v ∨ PaU p c k))
  generalize a.refuses i s.size = e at *
  clear H O hs hb hA h0
  unfold ptrTo at *
  go_enter Tryz.func21, Tryz.ntmps21
  go_wp2_with (go_at_call 52; refine (unhide HA).mono ?_; rintro r y ⟨rfl, rfl⟩)
  go_ret
  exact ⟨_, rfl, unhide HB, Far.refl _ _, fun k hk => .inl hk⟩
theorem agSays_ep (a : Mod.Ag) (l : List UInt8) : (agSays a l).2.epoch = a.epoch := by
 unfold agSays
 split
 ·unfold Mod.Ag.deliver
  repeat' split
  all_goals rfl
 ·rfl
theorem tick_ep (a : Mod.Ag) : a.tick.1.epoch = a.epoch := by
 unfold Mod.Ag.tick
 repeat' split
 all_goals rfl
theorem cwDeliver (bs : Value) (l : List UInt8) (h : CwAt w v a U) (G : AgGood N a) (hN : N < 1000000000) (hat : BytesAt w bs l) :
  Calls Tryz.prog 28 #[ptrTo v, bs] w fun r w' =>
   ∃ U', r = .returned (.int .i64 (agSays a l).1) ∧ CwAt w' v (agSays a l).2 U' ∧ Far U w w' ∧ ∀ k, U' k → U k ∨ w.heap.size ≤ k := by
 obtain ⟨p, g, free, sh, pl, st, c, hb, H, hs, O, rfl⟩ := h
 have c0 : w.cell? ⟨v, 0, none⟩ = some (ptrTo p) := blk_cell (i := 0) hb
 have HA := hide (agDeliver_any2 H hs O (fun i hi => by have := G.sum i hi; omega) bs l hat)
 have HE := hide (agSays_ep a l)
 have HB := hide (And.intro hb (ca_not H hb))
 generalize (agSays a l).2 = a2 at *
 generalize (agSays a l).1 = e at *
 clear H O hs hb hat
 unfold ptrTo at *
 go_enter Tryz.func28, Tryz.ntmps28
 go_wp2_with (go_at_call 57; refine (unhide HA).mono ?_; rintro r y ⟨rfl, k1⟩; replace k1 := hide k1)
 go_ret
 obtain ⟨U', h1, h2, h3⟩ := cwAt_is (unhide HB).1 (unhide HB).2 (unhide HE) (unhide k1)
 exact ⟨U', rfl, h1, h2, h3⟩
theorem cwTick (h : CwAt w v a U) (G : AgGood N a) (hN : N < 1000000000) :
  Calls Tryz.prog 24 #[ptrTo v] w fun r w' =>
   ∃ lv fs U', r = .returned lv ∧ FramesOut w.heap.size w' lv fs (a.tick.2.map fun l => ⟨l.toArray⟩) U' ∧ CwAt w' v a.tick.1 U' ∧ Far U w w' ∧ ∀ k, U' k → U k ∨ w.heap.size ≤ k := by
 obtain ⟨p, g, free, sh, pl, st, c, hb, H, hs, O, rfl⟩ := h
 have c0 : w.cell? ⟨v, 0, none⟩ = some (ptrTo p) := blk_cell (i := 0) hb
 have HA := hide (agTick_any2 H hs O G hN)
 have hvl := lt_of_block hb
 have HB := hide (And.intro hb (ca_not H hb))
 have HE := hide (tick_ep a)
 generalize a.tick.1 = a2 at *
 generalize a.tick.2 = fr at *
 clear H O hs hb
 unfold ptrTo at *
 go_enter Tryz.func24, Tryz.ntmps24
 go_wp2_with (go_at_call 53; refine (unhide HA).mono ?_; rintro r y ⟨lv, fs, rfl, k1⟩; replace k1 := hide k1)
 go_ret
 obtain ⟨c', k1, ⟨g2, free2, sh2, pl2, st2, K, hs2, O2⟩, F, Nn, s1, s2⟩ := unhide k1
 obtain ⟨hb, hnv⟩ := unhide HB
 refine ⟨lv, fs, fun k => k = v ∨ PaU p c' k, rfl, k1.apartU ?_, ⟨p, g2, free2, sh2, pl2, st2, c', F.blk hb hnv, K, by rw [unhide HE]; exact hs2, O2, rfl⟩, F.mono (fun _ _ h => .inr h), ?_⟩
 ·rintro k hk (rfl | hu)
  ·have := (k1.lt k hk).1; omega
  ·exact k1.clear k hk hu
 ·rintro k (rfl | hk)
  ·exact .inl (.inl rfl)
  ·exact (Nn k hk).imp .inr id
theorem cwImg (h : CwAt w v a U) : ∃ (L : List UInt8) (c2 hd : Nat) (free : List Nat) (pl : Nat → List Nat), Mod.AgDisk L a.epoch c2 hd a free pl ∧ Mod.Places a free pl ∧ ∀ x, Below w.heap.size w x → ∀ keep : Int,
  Calls Tryz.prog 29 #[ptrTo v, .int .u64 keep] x fun r y => ∃ v', r = .returned v' ∧ Owns x.heap.size y v' L ∧ Below x.heap.size x y := cyImg h
theorem cwOpen (bs : Value) (L : List UInt8) {c2 hd : Nat} {free : List Nat} {pl : Nat → List Nat} (hat : BytesAt w bs L) (D : Mod.AgDisk L a.epoch c2 hd a free pl) (P : Mod.Places a free pl) (hop : a.epoch ≤ 1073741824) (hsum : ∀ i, i < 3 → (a.fl i).base + (a.fl i).kept.length ≤ 1073741824) :
  Calls Tryz.prog 37 #[bs] w fun r w' => ∃ v U, r = .returned (.tuple #[ptrTo v, .int .i64 0]) ∧ CwAt w' v (Mod.reop a) U ∧ Below w.heap.size w w' ∧ ∀ k, U k → w.heap.size ≤ k := by
 refine (cyOpen bs L hat D P rfl hop hsum).mono ?_
 rintro r y ⟨v, U, rfl, k1, k2, k3⟩
 exact ⟨v, U, rfl, cyAt_mono k1 (by omega), k2, k3⟩
theorem cwOpen_zero (bs : Value) (hat : BytesAt w bs (List.replicate 1664 0)) :
  Calls Tryz.prog 37 #[bs] w fun r w' =>
   ∃ v U, r = .returned (.tuple #[ptrTo v, .int .i64 0]) ∧ CwAt w' v { epoch := 1, ticks := 0, welcome := false, fenced := false, fl := fun _ => { base := 0, kept := [], held := [] } } U ∧ Below w.heap.size w w' ∧ ∀ k, U k → w.heap.size ≤ k := by
 refine (cyOpen_zero bs hat).mono ?_
 rintro r y ⟨v, U, rfl, k1, k2, k3⟩
 exact ⟨v, U, rfl, cyAt_mono k1 (by omega), k2, k3⟩
end
structure AgentD (top : Nat) where
 C : AgentC top
 img : ∀ {w v a U}, C.At w v a U → ∃ (L : List UInt8) (c2 hd : Nat) (free : List Nat) (pl : Nat → List Nat), Mod.AgDisk L a.epoch c2 hd a free pl ∧ Mod.Places a free pl ∧ ∀ x, Below w.heap.size w x → ∀ keep : Int,
  Calls Tryz.prog 29 #[ptrTo v, .int .u64 keep] x fun r y => ∃ v', r = .returned v' ∧ Owns x.heap.size y v' L ∧ Below x.heap.size x y
 again : ∀ {w} {a : Mod.Ag} (bs : Value) (L : List UInt8) {c2 hd : Nat} {free : List Nat} {pl : Nat → List Nat}, BytesAt w bs L → Mod.AgDisk L a.epoch c2 hd a free pl → Mod.Places a free pl → a.epoch ≤ 1073741824 → (∀ i, i < 3 → (a.fl i).base + (a.fl i).kept.length ≤ 1073741824) →
  Calls Tryz.prog 37 #[bs] w fun r w' => ∃ v U, r = .returned (.tuple #[ptrTo v, .int .i64 0]) ∧ C.At w' v (Mod.reop a) U ∧ Below w.heap.size w w' ∧ ∀ k, U k → w.heap.size ≤ k
def theAgentD : AgentD 1000000000 where
 C := {
  At := CwAt
  lt := cyAt_lt
  far := cyAt_far
  submit := cwSubmit
  deliver := cwDeliver
  tick := cwTick
  epoch := fun h => caEpoch_any (cyAt_plain h)
  spool := fun i h => caSpool_any i (cyAt_plain h)
  opened := cwOpen_zero }
 img := cwImg
 again := cwOpen
end Go.Proofs.YtamafdcnbcoegaaGreat
namespace Go.Proofs.YtamafdcnbcoegaaGreat
open Go.RowKit
theorem sendTo_small (e s : Nat) (f : Mod.Flow) (t : Nat) (hb : ∀ x ∈ f.kept, x.1.size ≤ 20) : ∀ i, (Mod.sendTo e s f t i).2.length ≤ i ∧ ∀ l ∈ (Mod.sendTo e s f t i).2, l.length ≤ 35
 | 0 => ⟨Nat.le_refl _, fun l hl => by cases hl⟩
 | i + 1 => by
  obtain ⟨h1, h2⟩ := sendTo_small e s f t hb i
  rw [Mod.sendTo]
  split
  ·exact ⟨by omega, h2⟩
  ·rename_i x hx
   split
   ·refine ⟨by simp; omega, fun l hl => ?_⟩
    rw [List.mem_append, List.mem_singleton] at hl
    rcases hl with hl | rfl
    ·exact h2 l hl
    ·have := hb x (List.mem_of_getElem? hx)
     rw [Wire.length_bytes]
     simp
     omega
   ·exact ⟨by omega, h2⟩
theorem tick_small {N : Nat} {a : Mod.Ag} (G : AgGood N a) : a.tick.2.length ≤ 12 ∧ ∀ l ∈ a.tick.2, l.length ≤ 35 := by
 unfold Mod.Ag.tick
 split
 ·exact ⟨by simp, fun l hl => by cases hl⟩
 ·split
  ·refine ⟨by simp, fun l hl => ?_⟩
   rw [List.mem_singleton] at hl
   rw [hl, Wire.length_bytes]
   simp
  ·have h := fun s (hs : s < 3) => sendTo_small a.epoch s (a.fl s) (a.ticks + 1) (fun x hx => (G.bod s hs x hx).1) 4
   have h0 := h 0 (by omega)
   have h1 := h 1 (by omega)
   have h2 := h 2 (by omega)
   simp only [Mod.sendOut, List.nil_append]
   refine ⟨by simp only [List.length_append]; omega, fun l hl => ?_⟩
   rw [List.mem_append, List.mem_append] at hl
   rcases hl with (hl | hl) | hl
   ·exact h0.2 l hl
   ·exact h1.2 l hl
   ·exact h2.2 l hl
end Go.Proofs.YtamafdcnbcoegaaGreat
namespace Go.Proofs.YtamafdcnbcoegaaGreat
open Go.RowKit
theorem FramesOut.off {B : Nat} {w : World} {lv : Value} {fs : List Value} {Fl : List ByteArray} {U : Nat → Prop} (h : FramesOut B w lv fs Fl U) : FramesOut B w lv fs Fl (fun _ => False) := ⟨h.len, h.row, h.each, h.apart, fun _ _ e => e⟩
theorem skGood_says {a : Mod.Sk} (G : SkGood a) (l : List UInt8) : SkGood (skSays a l).2.1 := by
 unfold skSays
 cases hr : Wire.reads l
 ·exact G
 ·rw [if_pos rfl]
  have hp := hr
  unfold Wire.reads at hp
  rw [Bool.and_eq_true] at hp
  have hp2 := proper_small hp.2
  exact skGood_reply G _ _ _ _ _ (by have := hp2.2.2.1; omega) hp2.2.1.2
theorem agGood_says {N : Nat} {a : Mod.Ag} (G : AgGood N a) (l : List UInt8) : AgGood N (agSays a l).2 := by
 unfold agSays
 split
 ·exact agGood_deliver G _ _ _ _ _
 ·exact G
theorem agGood_submits {N : Nat} {a : Mod.Ag} (G : AgGood N a) (i : Int) (s : ByteArray) : AgGood (N + 1) (agSubmits a i s) := by
 unfold agSubmits
 split
 ·rename_i h
  exact agGood_submit G _ _ (refuses_0 h).2.1
 ·exact G.mono (Nat.le_succ _)
def Same (B : Nat) (G : Nat → Prop) (x y : World) : Prop := Far (fun j => B ≤ j ∧ ¬ G j) x y
theorem Same.refl (B : Nat) (G : Nat → Prop) (x : World) : Same B G x x := Far.refl _ _
theorem Same.trans {B : Nat} {G G' : Nat → Prop} {x y z : World} (h : Same B G x y) (h' : Same B G' y z) (hG : ∀ j, j < x.heap.size → G j → G' j) : Same B G x z :=
 Far.trans h h' (fun j hj e => ⟨e.1, fun g => e.2 (hG j hj g)⟩)
theorem Same.blk {B : Nat} {G : Nat → Prop} {x y : World} (h : Same B G x y) {k : Nat} (hk : k < x.heap.size) (hg : G k) : y.heap[k]? = x.heap[k]? := h.rest k hk (fun e => e.2 hg)
theorem Same.bel {B : Nat} {G : Nat → Prop} {x y : World} (h : Same B G x y) (hB : B ≤ x.heap.size) : Below B x y := Far.below h hB (fun k hk e => by omega)
theorem Same.less {B : Nat} {G G' : Nat → Prop} {x y : World} (h : Same B G x y) (hG : ∀ j, G' j → G j) : Same B G' x y := Far.mono h (fun j _ e => ⟨e.1, fun g => e.2 (hG j g)⟩)
structure Ends {top : Nat} (C : AgentC top) (D : SinkC) (B N : Nat) (x : World) (va vs : Nat) (a : Mod.Ag) (k : Mod.Sk) (G : Nat → Prop) : Prop where
 all : ∃ (U V : Nat → Prop), C.At x va a U ∧ D.At x vs k V ∧ (∀ j, U j → ¬ V j) ∧ (∀ j, U j → B ≤ j) ∧ (∀ j, V j → B ≤ j) ∧ (∀ j, G j → j < x.heap.size ∧ ¬ U j ∧ ¬ V j)
 ga : AgGood N a
 gk : SkGood k
 bx : B ≤ x.heap.size
section
variable {top : Nat} {C : AgentC top} {D : SinkC} {B N : Nat} {x y : World} {va vs : Nat} {a : Mod.Ag} {k : Mod.Sk} {G : Nat → Prop}
theorem Ends.far {E : Nat → Prop} (h : Ends C D B N x va vs a k G) (hF : Far E x y) (hE : ∀ j, E j → G j ∨ j < B) : Ends C D B N y va vs a k G := by
 obtain ⟨U, V, h1, h2, h3, h4, h5, h6⟩ := h.all
 refine ⟨⟨U, V, C.far h1 hF (fun j hu e => ?_), D.far h2 hF (fun j hu e => ?_), h3, h4, h5, fun j hj => ⟨Nat.lt_of_lt_of_le (h6 j hj).1 hF.size, (h6 j hj).2⟩⟩, h.ga, h.gk, Nat.le_trans h.bx hF.size⟩
 ·rcases hE j e with e | e
  ·exact (h6 j e).2.1 hu
  ·have := h4 j hu; omega
 ·rcases hE j e with e | e
  ·exact (h6 j e).2.2 hu
  ·have := h5 j hu; omega
theorem Ends.below (h : Ends C D B N x va vs a k G) (hb : Below x.heap.size x y) : Ends C D B N y va vs a k G := h.far (E := fun _ => False) (far_below hb) (fun _ e => e.elim)
theorem Ends.mono {G' : Nat → Prop} {M : Nat} (h : Ends C D B N x va vs a k G) (hG : ∀ j, G' j → G j) (hM : N ≤ M) : Ends C D B M x va vs a k G' := by
 obtain ⟨U, V, h1, h2, h3, h4, h5, h6⟩ := h.all
 exact ⟨⟨U, V, h1, h2, h3, h4, h5, fun j hj => h6 j (hG j hj)⟩, h.ga.mono hM, h.gk, h.bx⟩
theorem Ends.more (h : Ends C D B N x va vs a k G) (hb : Below x.heap.size x y) : Ends C D B N y va vs a k (fun j => G j ∨ (x.heap.size ≤ j ∧ j < y.heap.size)) := by
 have h' := h.below hb
 obtain ⟨U, V, h1, h2, h3, h4, h5, h6⟩ := h.all
 have hu := C.lt h1
 have hv := D.lt h2
 have F : Far (fun _ => False) x y := far_below hb
 refine ⟨⟨U, V, C.far h1 F (fun _ _ e => e), D.far h2 F (fun _ _ e => e), h3, h4, h5, fun j hj => ?_⟩, h.ga, h.gk, h'.bx⟩
 rcases hj with hj | hj
 ·exact ⟨Nat.lt_of_lt_of_le (h6 j hj).1 hb.size, (h6 j hj).2⟩
 ·exact ⟨hj.2, fun e => by have := hu j e; omega, fun e => by have := hv j e; omega⟩
theorem Ends.submit (h : Ends C D B N x va vs a k G) (hN : N < top) (i : Int) (s : ByteArray) :
  Calls Tryz.prog 21 #[ptrTo va, .int .i64 i, .string s] x fun r y => r = .returned (.int .i64 (a.refuses i s.size)) ∧ Ends C D B (N + 1) y va vs (agSubmits a i s) k G ∧ Same B G x y := by
 obtain ⟨U, V, h1, h2, h3, h4, h5, h6⟩ := h.all
 have hv := D.lt h2
 refine (C.submit i s h1 h.ga hN).mono ?_
 rintro r y ⟨U', rfl, k1, k2, k3⟩
 have hsz := k2.size
 have hu := C.lt k1
 refine ⟨rfl, ⟨⟨U', V, k1, D.far h2 k2 (fun j hj e => h3 j e hj), fun j hj e => ?_, fun j hj => ?_, h5, fun j hj => ⟨Nat.lt_of_lt_of_le (h6 j hj).1 hsz, fun e => ?_, (h6 j hj).2.2⟩⟩, agGood_submits h.ga i s, h.gk, Nat.le_trans h.bx hsz⟩, k2.mono (fun j _ e => ⟨h4 j e, fun g => (h6 j g).2.1 e⟩)⟩
 ·rcases k3 j hj with e' | e'
  ·exact h3 j e' e
  ·have := hv j e; omega
 ·rcases k3 j hj with e' | e'
  ·exact h4 j e'
  ·have := h.bx; omega
 ·rcases k3 j e with e' | e'
  ·exact (h6 j hj).2.1 e'
  ·have := (h6 j hj).1; omega
theorem Ends.hear (h : Ends C D B N x va vs a k G) (hN : N < top) (bs : Value) (l : List UInt8) (hat : BytesAt x bs l) :
  Calls Tryz.prog 28 #[ptrTo va, bs] x fun r y => r = .returned (.int .i64 (agSays a l).1) ∧ Ends C D B N y va vs (agSays a l).2 k G ∧ Same B G x y := by
 obtain ⟨U, V, h1, h2, h3, h4, h5, h6⟩ := h.all
 have hv := D.lt h2
 refine (C.deliver bs l h1 h.ga hN hat).mono ?_
 rintro r y ⟨U', rfl, k1, k2, k3⟩
 have hsz := k2.size
 have hu := C.lt k1
 refine ⟨rfl, ⟨⟨U', V, k1, D.far h2 k2 (fun j hj e => h3 j e hj), fun j hj e => ?_, fun j hj => ?_, h5, fun j hj => ⟨Nat.lt_of_lt_of_le (h6 j hj).1 hsz, fun e => ?_, (h6 j hj).2.2⟩⟩, agGood_says h.ga l, h.gk, Nat.le_trans h.bx hsz⟩, k2.mono (fun j _ e => ⟨h4 j e, fun g => (h6 j g).2.1 e⟩)⟩
 ·rcases k3 j hj with e' | e'
  ·exact h3 j e' e
  ·have := hv j e; omega
 ·rcases k3 j hj with e' | e'
  ·exact h4 j e'
  ·have := h.bx; omega
 ·rcases k3 j e with e' | e'
  ·exact (h6 j hj).2.1 e'
  ·have := (h6 j hj).1; omega
theorem Ends.tick (h : Ends C D B N x va vs a k G) (hN : N < top) :
  Calls Tryz.prog 24 #[ptrTo va] x fun r y => ∃ lv fs, r = .returned lv ∧ FramesOut x.heap.size y lv fs (a.tick.2.map fun l => ⟨l.toArray⟩) (fun _ => False) ∧ Ends C D B (N + 1) y va vs a.tick.1 k (fun j => G j ∨ Outs lv fs j) ∧ Same B G x y := by
 obtain ⟨U, V, h1, h2, h3, h4, h5, h6⟩ := h.all
 have hv := D.lt h2
 refine (C.tick h1 h.ga hN).mono ?_
 rintro r y ⟨lv, fs, U', rfl, hO, k1, k2, k3⟩
 have hsz := k2.size
 have hu := C.lt k1
 refine ⟨lv, fs, rfl, hO.off, ⟨⟨U', V, k1, D.far h2 k2 (fun j hj e => h3 j e hj), fun j hj e => ?_, fun j hj => ?_, h5, fun j hj => ?_⟩, agGood_tick h.ga, h.gk, Nat.le_trans h.bx hsz⟩, k2.mono (fun j _ e => ⟨h4 j e, fun g => (h6 j g).2.1 e⟩)⟩
 ·rcases k3 j hj with e' | e'
  ·exact h3 j e' e
  ·have := hv j e; omega
 ·rcases k3 j hj with e' | e'
  ·exact h4 j e'
  ·have := h.bx; omega
 ·rcases hj with hj | hj
  ·refine ⟨Nat.lt_of_lt_of_le (h6 j hj).1 hsz, fun e => ?_, (h6 j hj).2.2⟩
   rcases k3 j e with e' | e'
   ·exact (h6 j hj).2.1 e'
   ·have := (h6 j hj).1; omega
  ·have hl := hO.lt j hj
   exact ⟨hl.2, hO.clear j hj, fun e => by have := hv j e; omega⟩
theorem Ends.take (h : Ends C D B N x va vs a k G) (bs : Value) (l : List UInt8) (hat : BytesAt x bs l) :
  Calls Tryz.prog 27 #[ptrTo vs, bs] x fun r y => ∃ lv fs, r = .returned (.tuple #[lv, .int .i64 (skSays k l).1]) ∧ FramesOut x.heap.size y lv fs (skSays k l).2.2 (fun _ => False) ∧ Ends C D B N y va vs a (skSays k l).2.1 (fun j => G j ∨ Outs lv fs j) ∧ Same B G x y := by
 obtain ⟨U, V, h1, h2, h3, h4, h5, h6⟩ := h.all
 have hu := C.lt h1
 refine (D.deliver bs l h2 h.gk hat).mono ?_
 rintro r y ⟨lv, fs, V', rfl, hO, k1, k2, k3⟩
 have hsz := k2.size
 refine ⟨lv, fs, rfl, hO.off, ⟨⟨U, V', C.far h1 k2 (fun j hj e => h3 j hj e), k1, fun j hj e => ?_, h4, fun j hj => ?_, fun j hj => ?_⟩, h.ga, skGood_says h.gk l, Nat.le_trans h.bx hsz⟩, k2.mono (fun j _ e => ⟨h5 j e, fun g => (h6 j g).2.2 e⟩)⟩
 ·rcases k3 j e with e' | e'
  ·exact h3 j hj e'
  ·have := hu j hj; omega
 ·rcases k3 j hj with e' | e'
  ·exact h5 j e'
  ·have := h.bx; omega
 ·rcases hj with hj | hj
  ·refine ⟨Nat.lt_of_lt_of_le (h6 j hj).1 hsz, (h6 j hj).2.1, fun e => ?_⟩
   rcases k3 j e with e' | e'
   ·exact (h6 j hj).2.2 e'
   ·have := (h6 j hj).1; omega
  ·have hl := hO.lt j hj
   exact ⟨hl.2, fun e => by have := hu j e; omega, hO.clear j hj⟩
theorem Ends.spool (h : Ends C D B N x va vs a k G) (i : Int) :
  Calls Tryz.prog 26 #[ptrTo va, .int .i64 i] x fun r y => ∃ lv, r = .returned lv ∧ y.ownsRow x.heap.size 9 1 lv (agSpools a i).length (strs (agSpools a i)) ∧ Ends C D B N y va vs a k (fun j => G j ∨ (x.heap.size ≤ j ∧ j < y.heap.size)) ∧ Below x.heap.size x y := by
 obtain ⟨U, V, h1, _⟩ := h.all
 refine (C.spool i h1).mono ?_
 rintro r y ⟨lv, rfl, k1, k2⟩
 exact ⟨lv, rfl, k1, h.more k2, k2⟩
theorem Ends.log (h : Ends C D B N x va vs a k G) (i : Int) :
  Calls Tryz.prog 32 #[ptrTo vs, .int .i64 i] x fun r y => ∃ lv, r = .returned lv ∧ y.ownsRow x.heap.size 9 1 lv (skLogs k i).length (strs (skLogs k i)) ∧ Ends C D B N y va vs a k (fun j => G j ∨ (x.heap.size ≤ j ∧ j < y.heap.size)) ∧ Below x.heap.size x y := by
 obtain ⟨U, V, _, h2, _⟩ := h.all
 refine (D.log i h2 h.gk).mono ?_
 rintro r y ⟨lv, rfl, k1, k2⟩
 exact ⟨lv, rfl, k1, h.more k2, k2⟩
theorem Ends.epochA (h : Ends C D B N x va vs a k G) : Calls Tryz.prog 39 #[ptrTo va] x fun r y => r = .returned (.int .i64 a.epoch) ∧ Below x.heap.size x y := by
 obtain ⟨U, V, h1, _⟩ := h.all
 exact C.epoch h1
theorem Ends.epochS (h : Ends C D B N x va vs a k G) : Calls Tryz.prog 42 #[ptrTo vs] x fun r y => r = .returned (.int .i64 k.epoch) ∧ Below x.heap.size x y := by
 obtain ⟨U, V, _, h2, _⟩ := h.all
 exact D.epoch h2
end
end Go.Proofs.YtamafdcnbcoegaaGreat
namespace Go.Proofs.YtamafdcnbcoegaaGreat
open Go.RowKit
def pickN (c : Int) (n : Nat) : Nat := ((if c < 0 then -(c + 1) else c) % (n : Int)).toNat
theorem pickN_lt (c : Int) {n : Nat} (hn : 0 < n) : pickN c n < n := by
 unfold pickN
 have h1 := Int.emod_lt_of_pos (if c < 0 then -(c + 1) else c) (show (0 : Int) < n by omega)
 have h2 := Int.emod_nonneg (if c < 0 then -(c + 1) else c) (show (n : Int) ≠ 0 by omega)
 omega
end Go.Proofs.YtamafdcnbcoegaaGreat
namespace Go.Proofs.YtamafdcnbcoegaaGreat
open Go.RowKit
set_option maxRecDepth 100000 in
set_option maxHeartbeats 1000000 in
theorem keepAgent_any {top : Nat} (C : AgentC top) (w : World) :
  Calls Tryz.prog 18 #[] w fun r y => ∃ v U, r = .returned (ptrTo v) ∧ C.At y v { epoch := 1, ticks := 0, welcome := false, fenced := false, fl := fun _ => { base := 0, kept := [], held := [] } } U ∧ Below w.heap.size w y ∧ ∀ j, U j → w.heap.size ≤ j := by
 go_enter Tryz.func18, Tryz.ntmps18
 go_wp2_with (at_make; refine wp_make_full rfl _ _ rfl w.heap.size _ _ _ _ 1664 rfl rfl rfl rfl (by omega) (Nat.le_refl _) ?_; intro w1 hown1 hg1; have b1 := hide (below_grown_new (B := w.heap.size) hg1 (Nat.le_refl _) (by simp)); have HA := hide (Owns.at hown1); clear hown1 hg1)
 refine (C.opened _ (unhide HA)).mono ?_
 rintro r y ⟨v, U, rfl, k1, k2, k3⟩
 have HK := hide (And.intro k1 (And.intro k2 k3))
 clear k1 k2 k3
 unfold ptrTo
 go_wp2
 go_ret
 obtain ⟨k1, k2, k3⟩ := unhide HK
 have hb := unhide b1
 exact ⟨v, U, rfl, k1, hb.trans (k2.mono hb.size), fun j hj => Nat.le_trans hb.size (k3 j hj)⟩
set_option maxRecDepth 100000 in
set_option maxHeartbeats 1000000 in
theorem keepSink_any (D : SinkC) (w : World) :
  Calls Tryz.prog 19 #[] w fun r y => ∃ v U, r = .returned (ptrTo v) ∧ D.At y v { epoch := 0, logs := fun _ => [], held := [] } U ∧ Below w.heap.size w y ∧ ∀ j, U j → w.heap.size ≤ j := by
 go_enter Tryz.func19, Tryz.ntmps19
 go_wp2_with (at_make; refine wp_make_full rfl _ _ rfl w.heap.size _ _ _ _ 7808 rfl rfl rfl rfl (by omega) (Nat.le_refl _) ?_; intro w1 hown1 hg1; have b1 := hide (below_grown_new (B := w.heap.size) hg1 (Nat.le_refl _) (by simp)); have HA := hide (Owns.at hown1); clear hown1 hg1)
 refine (D.opened _ (unhide HA)).mono ?_
 rintro r y ⟨v, U, rfl, k1, k2, k3⟩
 have HK := hide (And.intro k1 (And.intro k2 k3))
 clear k1 k2 k3
 unfold ptrTo
 go_wp2
 go_ret
 obtain ⟨k1, k2, k3⟩ := unhide HK
 have hb := unhide b1
 exact ⟨v, U, rfl, k1, hb.trans (k2.mono hb.size), fun j hj => Nat.le_trans hb.size (k3 j hj)⟩
set_option maxRecDepth 100000 in
theorem keepPick_any (c : Int) (n : Nat) (w : World) (hc : -9223372036854775808 ≤ c ∧ c ≤ 9223372036854775807) (hn : 0 < n) (hn6 : n ≤ 100000000) :
  Calls Tryz.prog 22 #[.int .i64 c, .int .i64 n] w fun r w' => r = .returned (.int .i64 (pickN c n)) ∧ w' = w := by
 have hn0 : ¬ (n : Int) = 0 := by omega
 have hn1 : ¬ (n : Int) = -1 := by omega
 have hb : ((n : Int) == 0) = false := by simp; omega
 have HJ : Hid ((pickN c n : Int) = (if c < 0 then -(c + 1) else c) % (n : Int)) := by
  have h2 := Int.emod_nonneg (if c < 0 then -(c + 1) else c) hn0
  unfold pickN
  show _ = _
  omega
 generalize pickN c n = j at HJ
 obtain ⟨d, hd⟩ : ∃ d, d = if c < 0 then -(c + 1) else c := ⟨_, rfl⟩
 rw [← hd] at HJ
 have hd0 : 0 ≤ d ∧ d ≤ 9223372036854775807 := by rw [hd]; split <;> omega
 by_cases h : c < 0
 ·rw [if_pos h] at hd
  have hw1 : IntKind.i64.wrap (c + 1) = c + 1 := by rw [IntKind.wrap_i64]; omega
  have hw2 : IntKind.i64.wrap (-(c + 1)) = d := by rw [IntKind.wrap_i64]; omega
  clear hd
  go_enter Tryz.func22, Tryz.ntmps22
  go_wp2
  go_ret
  exact ⟨ret_i (unhide HJ).symm, rfl⟩
 ·rw [if_neg h] at hd
  subst hd
  go_enter Tryz.func22, Tryz.ntmps22
  go_wp2
  go_ret
  exact ⟨ret_i (unhide HJ).symm, rfl⟩
def digL (n : Nat) : List UInt8 := if n < 10 then [UInt8.ofNat (48 + n)] else digL (n / 10) ++ [UInt8.ofNat (48 + n % 10)]
def digB (n : Nat) : ByteArray := ⟨(digL n).toArray⟩
theorem digL_len : ∀ (k n : Nat), n < 10 ^ (k + 1) → (digL n).length ≤ k + 1
 | 0, n, h => by
  rw [digL, if_pos (by simpa using h)]
  simp
 | k + 1, n, h => by
  rw [digL]
  split
  ·simp
  ·have := digL_len k (n / 10) (by rw [Nat.pow_succ] at h; omega)
   simp
   omega
theorem digB_size {n : Nat} (h : n < 10000000000) : (digB n).size ≤ 10 := by
 have := digL_len 9 n (by omega)
 simpa [digB, ByteArray.size] using this
theorem digB_eq (n : Nat) : digB n = if n < 10 then ⟨#[UInt8.ofNat (48 + n % 10)]⟩ else digB (n / 10) ++ ⟨#[UInt8.ofNat (48 + n % 10)]⟩ := by
 unfold digB
 conv => lhs; rw [digL]
 split
 ·rename_i h
  rw [Nat.mod_eq_of_lt h]
 ·apply ByteArray.ext
  simp
set_option maxRecDepth 100000 in
set_option maxHeartbeats 1000000 in
theorem digits_any (n : Nat) (w : World) (hn : n ≤ 1000000000) : Calls Tryz.prog 23 #[.int .i64 n] w fun r y => r = .returned (.string (digB n)) ∧ Below w.heap.size w y := by
 have ih : ¬ n < 10 → ∀ x, Hid (Calls Tryz.prog 23 #[.int .i64 (n / 10 : Nat)] x fun r y => r = .returned (.string (digB (n / 10))) ∧ Below x.heap.size x y) := fun h x => digits_any (n / 10) x (by omega)
 have hconv : (convert 44 9 (.slice (some ⟨w.heap.size, 0, none⟩) 1 1)).run Tryz.prog (w.alloc (.cells #[.int .u8 (48 + (n : Int) % 10)] 5)) = .ok (.string ⟨#[UInt8.ofNat (48 + n % 10)]⟩) (w.alloc (.cells #[.int .u8 (48 + (n : Int) % 10)] 5)) :=
  conv_str (l := [UInt8.ofNat (48 + n % 10)]) (b := w.heap.size) (off := 0) (n := 1) (cap := 1) rfl (fun i hi => by
   obtain rfl : i = 0 := by omega
   rw [blk_cell (heap_alloc_new w _)]
   simp only [List.getD_cons_zero, UInt8.toNat_ofNat']
   have : ((48 + n % 10) % 2 ^ 8 : Nat) = 48 + n % 10 := by omega
   rw [this]
   simp)
 have hb := hide ((Below.refl w.heap.size w).alloc (Nat.le_refl _) (.cells #[.int .u8 (48 + (n : Int) % 10)] 5))
 have hd0 : Hid (digB n = if n < 10 then ⟨#[UInt8.ofNat (48 + n % 10)]⟩ else digB (n / 10) ++ ⟨#[UInt8.ofNat (48 + n % 10)]⟩) := digB_eq n
 obtain ⟨cc, hcc⟩ : ∃ cc, cc = UInt8.ofNat (48 + n % 10) := ⟨_, rfl⟩
 rw [← hcc] at hconv hd0
 clear hcc
 by_cases h : n < 10
 ·have hi : (n : Int) < 10 := by omega
  have hd : Hid (digB n = ⟨#[cc]⟩) := (unhide hd0).trans (if_pos h)
  clear ih
  go_enter Tryz.func23, Tryz.ntmps23
  go_wp2
  go_ret
  exact ⟨by rw [unhide hd]; rfl, unhide hb⟩
 ·have hi : ¬ (n : Int) < 10 := by omega
  have hd : Hid (digB n = digB (n / 10) ++ ⟨#[cc]⟩) := (unhide hd0).trans (if_neg h)
  clear hd0
  have ih := ih h
  have hdz : (digB (n / 10)).size ≤ 10 := digB_size (by omega)
  generalize digB (n / 10) = db at ih hd hdz
  have hdz2 : ¬ 9223372036854775807 < db.size + 1 := by omega
  obtain ⟨m, hm⟩ : ∃ m, m = n / 10 := ⟨_, rfl⟩
  rw [← hm] at ih
  have hq : (n : Int).tdiv 10 = (m : Int) := by rw [Int.tdiv_eq_ediv_of_nonneg (by omega)]; omega
  have hq2 : (n : Int) / 10 = (m : Int) := by omega
  have hw : IntKind.i64.wrap (m : Int) = (m : Int) := by rw [IntKind.wrap_i64]; omega
  clear hm
  go_enter Tryz.func23, Tryz.ntmps23
  go_wp2_with (go_at_call 23; refine (unhide (ih _)).mono ?_; rintro r y ⟨rfl, hy⟩; have HY := hide ((unhide hb).trans (hy.mono (unhide hb).size)); clear hy)
  go_ret
  exact ⟨by rw [unhide hd]; rfl, unhide HY⟩
  termination_by n
  decreasing_by omega
theorem str_eq_false {a b : ByteArray} (h : a ≠ b) : (a.toList == b.toList) = false := by
 rw [toList_data, toList_data]
 cases hc : (a.data.toList == b.data.toList) with
 | false => rfl
 | true =>
  rw [beq_iff_eq] at hc
  exact absurd (by cases a; cases b; simp at hc; rw [hc]) h
set_option maxRecDepth 100000 in
set_option maxHeartbeats 2000000 in
theorem keepSame_any (w : World) (v u : Value) (A B : List ByteArray) (hv : ListAt w v (strs A)) (hu : ListAt w u (strs B)) (hz : A.length ≤ 1000000000) :
  Calls Tryz.prog 33 #[v, u] w fun r y => r = .returned (.bool (decide (A = B))) ∧ ∃ q, y = w.drewN q := by
 obtain ⟨la, lc, hlv, hl1, hl2, hl3⟩ := hv
 obtain ⟨ma, mc, hmv, hm1, hm2, hm3⟩ := hu
 rw [strs_length] at hlv hl1 hl3 hmv hm1 hm3
 subst hlv hmv
 have HL3 := hide hl3
 have HM3 := hide hm3
 clear hl3 hm3
 by_cases hlen : A.length = B.length
 ·rw [← hlen] at HM3 hm1 ⊢
  have hne : ((A.length : Int) != (A.length : Int)) = false := by simp
  go_enter Tryz.func33, Tryz.ntmps33
  go_wp2
  go_loopw [5] (fun i wr => ∃ k : Nat, k ≤ A.length ∧ i = .int .i64 k ∧ A.take k = B.take k ∧ ∃ q, wr = w.drewN q) (fun i _ => A.length - (intOf i).toNat)
  case atStart => exact ⟨0, by omega, rfl, rfl, 0, rfl⟩
  case round =>
   obtain ⟨k, hk, rfl, hAB, q, rfl⟩ := hrel
   by_cases hlt : k < A.length
   ·have hltB : k < B.length := by omega
    obtain ⟨g, o, rfl, _, hc⟩ := (unhide HL3) (by omega)
    obtain ⟨g2, o2, rfl, _, hc2⟩ := (unhide HM3) (by omega)
    have hx : (strs A)[k]? = some (.string A[k]) := by simp [strs, hlt]
    have hx2 : (strs B)[k]? = some (.string B[k]) := by simp [strs, hltB]
    have y1 := (hc k hlt).trans hx
    have y2 := (hc2 k hlt).trans hx2
    have HAB := hide hAB
    have hak : Hid (A[k]? = some A[k]) := List.getElem?_eq_getElem hlt
    have hbk : Hid (B[k]? = some B[k]) := List.getElem?_eq_getElem hltB
    clear hc hc2 hx hx2 hAB
    generalize A[k] = ak at y1 hak
    generalize B[k] = bk at y2 hbk
    by_cases he : ak = bk
    ·subst he
     have hee : (ak.toList == ak.toList) = true := beq_self_eq_true _
     go_wp2
     go_quiet (fail)
     go_wp2
     go_roundw
     case rel => exact ⟨k + 1, by omega, by go_num, by rw [List.take_add_one, List.take_add_one, unhide HAB, unhide hak, unhide hbk], q + nq, by simp⟩
     case measure => simp [intOf]; omega
    ·have hee := str_eq_false he
     have hd : decide (A = B) = false := by
      rw [decide_eq_false_iff_not]
      intro e
      have h1 := unhide hak
      rw [e, unhide hbk] at h1
      injection h1 with h1
      exact he h1.symm
     go_wp2
     go_quiet (fail)
     go_wp2
     go_ret
     exact ⟨by rw [hd]; rfl, q + nq, by simp⟩
   ·have hd : decide (A = B) = true := by
     rw [decide_eq_true_iff]
     rw [List.take_of_length_le (by omega), List.take_of_length_le (by omega)] at hAB
     exact hAB
    go_wp2
    go_ret
    exact ⟨by rw [hd]; rfl, q, rfl⟩
 ·have hd : decide (A = B) = false := by
   rw [decide_eq_false_iff_not]
   intro e
   exact hlen (by rw [e])
  have hne : ((A.length : Int) != (B.length : Int)) = true := by simp; omega
  go_enter Tryz.func33, Tryz.ntmps33
  go_wp2
  go_ret
  exact ⟨by rw [hd]; rfl, 0, rfl⟩
end Go.Proofs.YtamafdcnbcoegaaGreat
namespace Go.Proofs.YtamafdcnbcoegaaGreat
open Go.RowKit
def hearM : Mod.Ag × Bool → List ByteArray → Mod.Ag × Bool
 | s, [] => s
 | s, b :: r => hearM ((agSays s.1 b.data.toList).2, s.2 && ((agSays s.1 b.data.toList).1 == 0)) r
def tellM : Mod.Ag × Mod.Sk × Bool → List (List UInt8) → Mod.Ag × Mod.Sk × Bool
 | s, [] => s
 | s, l :: r => tellM ((hearM (s.1, s.2.2 && ((skSays s.2.1 l).1 == 0)) (skSays s.2.1 l).2.2).1, (skSays s.2.1 l).2.1, (hearM (s.1, s.2.2 && ((skSays s.2.1 l).1 == 0)) (skSays s.2.1 l).2.2).2) r
def exchM (a : Mod.Ag) (k : Mod.Sk) : Mod.Ag × Mod.Sk × Bool := tellM (a.tick.1, k, true) a.tick.2
theorem hearM_snoc (s : Mod.Ag × Bool) (l : List ByteArray) (b : ByteArray) : hearM s (l ++ [b]) = ((agSays (hearM s l).1 b.data.toList).2, (hearM s l).2 && ((agSays (hearM s l).1 b.data.toList).1 == 0)) := by
 induction l generalizing s with
 | nil => rfl
 | cons x r ih => exact ih _
theorem tellM_snoc (s : Mod.Ag × Mod.Sk × Bool) (l : List (List UInt8)) (b : List UInt8) : tellM s (l ++ [b]) = tellM (tellM s l) [b] := by
 induction l generalizing s with
 | nil => rfl
 | cons x r ih => exact ih _
theorem FramesOut.get {B : Nat} {w : World} {lv : Value} {fs : List Value} {Fl : List ByteArray} {U : Nat → Prop} (h : FramesOut B w lv fs Fl U) (i : Nat) (hi : i < Fl.length) : ∃ v, fs[i]? = some v ∧ Owns B w v Fl[i].data.toList := by
 have hl := h.len
 have hi2 : i < fs.length := by omega
 refine ⟨fs[i], List.getElem?_eq_getElem hi2, ?_⟩
 have := h.each i fs[i] (List.getElem?_eq_getElem hi2)
 rw [List.getD_eq_getElem?_getD, List.getElem?_map, List.getElem?_eq_getElem hi] at this
 exact this
set_option maxRecDepth 100000 in
set_option maxHeartbeats 8000000 in
theorem exchange_any {top : Nat} (C : AgentC top) (D : SinkC) (B N : Nat) (x : World) (va vs : Nat) (a : Mod.Ag) (k : Mod.Sk) (G : Nat → Prop) (H : Ends C D B N x va vs a k G) (hN : N + 1 < top) :
  Calls Tryz.prog 31 #[ptrTo va, ptrTo vs] x fun r y => r = .returned (.tuple #[.int .i64 a.tick.2.length, .bool (exchM a k).2.2]) ∧ Ends C D B (N + 1) y va vs (exchM a k).1 (exchM a k).2.1 G ∧ Same B G x y := by
 have HT := hide (H.tick (by omega))
 have hsm := (tick_small H.ga).1
 have HB := hide H.bx
 have HGX := hide (fun j (hj : G j) => (H.all.elim fun _ h => h.elim fun _ h => (h.2.2.2.2.2 j hj).1))
 have hex : exchM a k = tellM (a.tick.1, k, true) a.tick.2 := rfl
 rw [hex]
 obtain ⟨FL, hFL⟩ : ∃ FL, FL = a.tick.2 := ⟨_, rfl⟩
 rw [← hFL] at HT hsm ⊢
 generalize a.tick.1 = a1 at HT ⊢
 clear H hex hFL
 unfold ptrTo at *
 go_enter Tryz.func31, Tryz.ntmps31
 go_upto_region 2 with (go_at_call 24; refine (unhide HT).mono ?_; rintro r y ⟨lv, fs, rfl, k1, k2, k3⟩; obtain ⟨ad, cap, e, _⟩ := (own_rowO k1.row).shape; rw [show fs.length = FL.length by rw [k1.len]; simp] at e; subst e; have hzy := k3.size; have HO := hide k1; have HE := hide k2; have HS := hide k3; clear k1 k2 k3)
 go_wp2
 go_loopw [7, 8, 9, 10, 11, 12] (fun ok i _ _ _ _ wr => ∃ j : Nat, j ≤ FL.length ∧ i = .int .i64 j ∧ ok = .bool (tellM (a1, k, true) (FL.take j)).2.2 ∧ Ends C D B (N + 1) wr va vs (tellM (a1, k, true) (FL.take j)).1 (tellM (a1, k, true) (FL.take j)).2.1 (fun q => G q ∨ Outs (.slice ad FL.length cap) fs q) ∧ Same B (fun q => G q ∨ Outs (.slice ad FL.length cap) fs q) y wr) (fun _ i _ _ _ _ _ => FL.length - (intOf i).toNat)
 case atStart => exact ⟨0, by omega, rfl, rfl, unhide HE, Same.refl _ _ _⟩
 case round =>
  obtain ⟨j, hj, rfl, rfl, hE, hS⟩ := hrel
  obtain ⟨aj, kj, okj, hT3⟩ : ∃ a k' o, tellM (a1, k, true) (FL.take j) = (a, k', o) := ⟨_, _, _, rfl⟩
  rw [hT3] at hE ⊢
  by_cases hlt : j < FL.length
  ·have hO2 := (unhide HO).keep (fun q hq => hS.rest q ((unhide HO).lt q hq).2 (fun e => e.2 (.inr hq)))
   obtain ⟨v, hv, hown⟩ := hO2.get j (by simpa using hlt)
   simp only [List.getElem_map] at hown
   have hlf : fs.length = FL.length := by rw [(unhide HO).len]; simp
   have hrow := hO2.row
   rw [hlf] at hrow
   have h0 : 0 < FL.length := by omega
   obtain ⟨g, c2, hadd⟩ := own_shapeB hrow h0
   injection hadd with hadd _ hcc
   subst hadd
   subst hcc
   have cj := World.ownsRow.cellAt hrow j (by omega)
   rw [hv] at cj
   obtain ⟨vad, vcap, ev, _⟩ := (own_rowO hown).shape
   rw [ev] at cj hown
   obtain ⟨nl, hnl⟩ : ∃ nl, nl = FL[j].length := ⟨_, rfl⟩
   have hTN : Hid (tellM (a1, k, true) (FL.take (j + 1)) = tellM (aj, kj, okj) [FL[j]]) := by
    show _ = _
    rw [List.take_add_one, List.getElem?_eq_getElem hlt]
    show tellM _ (FL.take j ++ [FL[j]]) = _
    rw [tellM_snoc, hT3]
   have hat := Owns.at hown
   have HD := hide (hE.take _ FL[j] (by simpa using hat))
   have htm : tellM (aj, kj, okj) [FL[j]] = ((hearM (aj, okj && ((skSays kj FL[j]).1 == 0)) (skSays kj FL[j]).2.2).1, (skSays kj FL[j]).2.1, (hearM (aj, okj && ((skSays kj FL[j]).1 == 0)) (skSays kj FL[j]).2.2).2) := rfl
   rw [htm] at hTN
   clear htm hat hown hv hrow
   have hFRl : (skSays kj FL[j]).2.2.length ≤ 1 := (skSays_small kj FL[j]).1
   generalize (skSays kj FL[j]).2.1 = k2 at HD hTN
   generalize (skSays kj FL[j]).1 = er at HD hTN
   generalize (skSays kj FL[j]).2.2 = FR at HD hTN hFRl
   have HE1 := hide hE
   have HS1 := hide hS
   have HO1 := hide hO2
   have hgl := (World.ownsRow.lt (unhide HO1).row g rfl).2
   have HJ := hide (And.intro hlt hj)
   have hjn : (j : Int) < (FL.length : Int) := by omega
   have hj0 : (0 : Int) ≤ (j : Int) := by omega
   have hcl : FL.length ≤ cap := by
    rcases (unhide HO1).row.2 with ⟨h, _⟩ | ⟨g', cap', cur, h, _, _, h2, _⟩
    ·cases h
    ·injection h with _ _ h3
     have := (unhide HO1).len
     simp at this
     omega
   unfold ptrTo at HD
   generalize hfl : FL[j].length = fl at *
   have HFL := hide hfl
   clear hfl
   cases okj with
   | false =>
    go_upto_region 7 with (go_at_call 27; refine (unhide HD).mono ?_; rintro r y1 ⟨lv2, fs2, rfl, k1, k2, k3⟩; obtain ⟨ad2, cap2, e, _⟩ := (own_rowO k1.row).shape; rw [k1.len] at e; subst e; have hzy2 := k3.size; have HO2 := hide k1; have HE2 := hide k2; have HS2 := hide k3; clear k1 k2 k3)
    go_upto_region 8 with fail
    simp only [Bool.false_and] at hTN
    clear HD cj hjn hj0
    go_wp2
    go_loopw [7, 11, 12] (fun ok i2 _ wr2 => ∃ j2 : Nat, j2 ≤ FR.length ∧ i2 = .int .i64 j2 ∧ ok = .bool (hearM (aj, false) (FR.take j2)).2 ∧ Ends C D B (N + 1) wr2 va vs (hearM (aj, false) (FR.take j2)).1 k2 (fun q => (G q ∨ Outs (.slice (some ⟨g, 0, none⟩) FL.length cap) fs q) ∨ Outs (.slice ad2 FR.length cap2) fs2 q) ∧ Same B (fun q => (G q ∨ Outs (.slice (some ⟨g, 0, none⟩) FL.length cap) fs q) ∨ Outs (.slice ad2 FR.length cap2) fs2 q) y1 wr2) (fun _ i2 _ _ => FR.length - (intOf i2).toNat)
    case atStart => exact ⟨0, by omega, rfl, rfl, unhide HE2, Same.refl _ _ _⟩
    case round =>
     obtain ⟨j2, hj2, rfl, rfl, hE3, hS3⟩ := hrel
     obtain ⟨a2, o2, hT2⟩ : ∃ a o, hearM (aj, false) (FR.take j2) = (a, o) := ⟨_, _, rfl⟩
     rw [hT2] at hE3 ⊢
     by_cases hlt2 : j2 < FR.length
     ·have hO3 := (unhide HO2).keep (fun q hq => hS3.rest q ((unhide HO2).lt q hq).2 (fun e => e.2 (.inr hq)))
      obtain ⟨v2, hv2, hown2⟩ := hO3.get j2 hlt2
      have hlf2 := (unhide HO2).len
      have hrow2 := hO3.row
      rw [hlf2] at hrow2
      have h02 : 0 < FR.length := by omega
      obtain ⟨g2, c3, hadd2⟩ := own_shapeB hrow2 h02
      injection hadd2 with hadd2 _ hcc2
      subst hadd2
      subst hcc2
      have cj2 := World.ownsRow.cellAt hrow2 j2 (by omega)
      rw [hv2] at cj2
      obtain ⟨vad2, vcap2, ev2, _⟩ := (own_rowO hown2).shape
      rw [ev2] at cj2 hown2
      have hTN2 : Hid (hearM (aj, false) (FR.take (j2 + 1)) = ((agSays a2 FR[j2].data.toList).2, o2 && ((agSays a2 FR[j2].data.toList).1 == 0))) := by
       show _ = _
       rw [List.take_add_one, List.getElem?_eq_getElem hlt2]
       show hearM _ (FR.take j2 ++ [FR[j2]]) = _
       rw [hearM_snoc, hT2]
      have hat2 := Owns.at hown2
      have HD2 := hide (hE3.hear hN _ FR[j2].data.toList hat2)
      generalize (agSays a2 FR[j2].data.toList).2 = a3 at HD2 hTN2
      generalize (agSays a2 FR[j2].data.toList).1 = er2 at HD2 hTN2
      have hgl2 := (World.ownsRow.lt hO3.row g2 rfl).2
      have hcl2 : FR.length ≤ cap2 := by
       rcases hO3.row.2 with ⟨h, _⟩ | ⟨g', cap', cur, h, _, _, h2, _⟩
       ·cases h
       ·injection h with _ _ h3
        omega
      have hjn2 : (j2 : Int) < (FR.length : Int) := by omega
      have hj02 : (0 : Int) ≤ (j2 : Int) := by omega
      have HE3 := hide hE3
      have HS3 := hide hS3
      clear hat2 hown2 hv2 hrow2 hE3 hS3 hO3 hT2 ev2 hlf2
      unfold ptrTo at HD2
      generalize hfl2 : FR[j2].data.toList.length = fl2 at *
      have HFL2 := hide hfl2
      clear hfl2
      cases o2
      all_goals
       go_upto_region 12 with (go_at_call 28; refine (unhide HD2).mono ?_; rintro r y2 ⟨rfl, k1, k2⟩; have HE4 := hide k1; have HS4 := hide k2; clear k1 k2)
       simp only [Bool.false_and, Bool.true_and] at hTN2
       go_wp2
       go_roundw
       case rel => exact ⟨j2 + 1, by omega, by go_num, by rw [unhide hTN2], by rw [unhide hTN2]; exact unhide HE4, (unhide HS3).trans (unhide HS4) (fun _ _ h => h)⟩
       case measure => simp [intOf]; omega
     ·have hj2e : j2 = FR.length := by omega
      subst hj2e
      rw [List.take_length] at hT2
      rw [hT2] at hTN
      have HE3 := hide hE3
      have HS3 := hide hS3
      clear hE3 hS3 hT2
      go_wp2
      go_roundw
      case rel =>
       refine ⟨j + 1, by have := (unhide HJ).1; omega, by go_num, by rw [unhide hTN], by rw [unhide hTN]; exact (unhide HE3).mono (fun q h => .inl h) (Nat.le_refl _), ?_⟩
       exact ((unhide HS1).trans (unhide HS2) (fun _ _ h => h)).trans (unhide HS3) (fun _ _ h => .inl h)
      case measure =>
       have := (unhide HJ).1
       simp [intOf]
       omega
   | true =>
    go_upto_region 7 with (go_at_call 27; refine (unhide HD).mono ?_; rintro r y1 ⟨lv2, fs2, rfl, k1, k2, k3⟩; obtain ⟨ad2, cap2, e, _⟩ := (own_rowO k1.row).shape; rw [k1.len] at e; subst e; have hzy2 := k3.size; have HO2 := hide k1; have HE2 := hide k2; have HS2 := hide k3; clear k1 k2 k3)
    go_upto_region 8 with fail
    simp only [Bool.true_and] at hTN
    obtain ⟨e0, he0⟩ : ∃ e0, e0 = (er == 0) := ⟨_, rfl⟩
    rw [← he0] at hTN
    rw [← he0]
    clear he0
    clear HD cj hjn hj0
    go_wp2
    go_loopw [7, 11, 12] (fun ok i2 _ wr2 => ∃ j2 : Nat, j2 ≤ FR.length ∧ i2 = .int .i64 j2 ∧ ok = .bool (hearM (aj, e0) (FR.take j2)).2 ∧ Ends C D B (N + 1) wr2 va vs (hearM (aj, e0) (FR.take j2)).1 k2 (fun q => (G q ∨ Outs (.slice (some ⟨g, 0, none⟩) FL.length cap) fs q) ∨ Outs (.slice ad2 FR.length cap2) fs2 q) ∧ Same B (fun q => (G q ∨ Outs (.slice (some ⟨g, 0, none⟩) FL.length cap) fs q) ∨ Outs (.slice ad2 FR.length cap2) fs2 q) y1 wr2) (fun _ i2 _ _ => FR.length - (intOf i2).toNat)
    case atStart => exact ⟨0, by omega, rfl, rfl, unhide HE2, Same.refl _ _ _⟩
    case round =>
     obtain ⟨j2, hj2, rfl, rfl, hE3, hS3⟩ := hrel
     obtain ⟨a2, o2, hT2⟩ : ∃ a o, hearM (aj, e0) (FR.take j2) = (a, o) := ⟨_, _, rfl⟩
     rw [hT2] at hE3 ⊢
     by_cases hlt2 : j2 < FR.length
     ·have hO3 := (unhide HO2).keep (fun q hq => hS3.rest q ((unhide HO2).lt q hq).2 (fun e => e.2 (.inr hq)))
      obtain ⟨v2, hv2, hown2⟩ := hO3.get j2 hlt2
      have hlf2 := (unhide HO2).len
      have hrow2 := hO3.row
      rw [hlf2] at hrow2
      have h02 : 0 < FR.length := by omega
      obtain ⟨g2, c3, hadd2⟩ := own_shapeB hrow2 h02
      injection hadd2 with hadd2 _ hcc2
      subst hadd2
      subst hcc2
      have cj2 := World.ownsRow.cellAt hrow2 j2 (by omega)
      rw [hv2] at cj2
      obtain ⟨vad2, vcap2, ev2, _⟩ := (own_rowO hown2).shape
      rw [ev2] at cj2 hown2
      have hTN2 : Hid (hearM (aj, e0) (FR.take (j2 + 1)) = ((agSays a2 FR[j2].data.toList).2, o2 && ((agSays a2 FR[j2].data.toList).1 == 0))) := by
       show _ = _
       rw [List.take_add_one, List.getElem?_eq_getElem hlt2]
       show hearM _ (FR.take j2 ++ [FR[j2]]) = _
       rw [hearM_snoc, hT2]
      have hat2 := Owns.at hown2
      have HD2 := hide (hE3.hear hN _ FR[j2].data.toList hat2)
      generalize (agSays a2 FR[j2].data.toList).2 = a3 at HD2 hTN2
      generalize (agSays a2 FR[j2].data.toList).1 = er2 at HD2 hTN2
      have hgl2 := (World.ownsRow.lt hO3.row g2 rfl).2
      have hcl2 : FR.length ≤ cap2 := by
       rcases hO3.row.2 with ⟨h, _⟩ | ⟨g', cap', cur, h, _, _, h2, _⟩
       ·cases h
       ·injection h with _ _ h3
        omega
      have hjn2 : (j2 : Int) < (FR.length : Int) := by omega
      have hj02 : (0 : Int) ≤ (j2 : Int) := by omega
      have HE3 := hide hE3
      have HS3 := hide hS3
      clear hat2 hown2 hv2 hrow2 hE3 hS3 hO3 hT2 ev2 hlf2
      unfold ptrTo at HD2
      generalize hfl2 : FR[j2].data.toList.length = fl2 at *
      have HFL2 := hide hfl2
      clear hfl2
      cases o2
      all_goals
       go_upto_region 12 with (go_at_call 28; refine (unhide HD2).mono ?_; rintro r y2 ⟨rfl, k1, k2⟩; have HE4 := hide k1; have HS4 := hide k2; clear k1 k2)
       simp only [Bool.false_and, Bool.true_and] at hTN2
       go_wp2
       go_roundw
       case rel => exact ⟨j2 + 1, by omega, by go_num, by rw [unhide hTN2], by rw [unhide hTN2]; exact unhide HE4, (unhide HS3).trans (unhide HS4) (fun _ _ h => h)⟩
       case measure => simp [intOf]; omega
     ·have hj2e : j2 = FR.length := by omega
      subst hj2e
      rw [List.take_length] at hT2
      rw [hT2] at hTN
      have HE3 := hide hE3
      have HS3 := hide hS3
      clear hE3 hS3 hT2
      go_wp2
      go_roundw
      case rel =>
       refine ⟨j + 1, by have := (unhide HJ).1; omega, by go_num, by rw [unhide hTN], by rw [unhide hTN]; exact (unhide HE3).mono (fun q h => .inl h) (Nat.le_refl _), ?_⟩
       exact ((unhide HS1).trans (unhide HS2) (fun _ _ h => h)).trans (unhide HS3) (fun _ _ h => .inl h)
      case measure =>
       have := (unhide HJ).1
       simp [intOf]
       omega
  ·have hje : j = FL.length := by omega
   subst hje
   rw [List.take_length] at hT3
   have HE1 := hide hE
   have HS1 := hide hS
   clear hE hS
   go_wp2
   go_ret2
   exact ⟨rfl, (unhide HE1).mono (fun q h => .inl h) (Nat.le_refl _), (unhide HS).trans (unhide HS1) (fun _ _ h => .inl h)⟩
end Go.Proofs.YtamafdcnbcoegaaGreat
namespace Go.Proofs.YtamafdcnbcoegaaGreat
end Go.Proofs.YtamafdcnbcoegaaGreat
namespace Go.Proofs.YtamafdcnbcoegaaGreat
def sk00 : Mod.Sk := { epoch := 0, logs := fun _ => [], held := [] }
end Go.Proofs.YtamafdcnbcoegaaGreat
namespace Go.Proofs.YtamafdcnbcoegaaGreat
open Go.RowKit
theorem agGood_zero (n : Nat) : AgGood n ag0 := ⟨by simp [ag0], by simp [ag0], by simp [ag0], fun s hs x hx => by simp [ag0] at hx⟩
end Go.Proofs.YtamafdcnbcoegaaGreat
namespace Go.Proofs.YtamafdcnbcoegaaGreat
open Go.RowKit
section
variable {top : Nat} {C : AgentC top} {D : SinkC} {B i : Nat} {x y : World} {va vs g : Nat} {xs : Nat → Nat} {wv : Nat → Value}
end
def exN (a : Mod.Ag) (k : Mod.Sk) : Nat → Mod.Ag × Mod.Sk
 | 0 => (a, k)
 | j + 1 => ((exchM (exN a k j).1 (exN a k j).2).1, (exchM (exN a k j).1 (exN a k j).2).2.1)
theorem exN_succ (a : Mod.Ag) (k : Mod.Sk) (j : Nat) : exN a k (j + 1) = ((exchM (exN a k j).1 (exN a k j).2).1, (exchM (exN a k j).1 (exN a k j).2).2.1) := rfl
end Go.Proofs.YtamafdcnbcoegaaGreat
namespace Go.Proofs.YtamafdcnbcoegaaGreat
open Go.RowKit
def ag00 : Mod.Ag := { epoch := 1, ticks := 0, welcome := false, fenced := false, fl := fun _ => { base := 0, kept := [], held := [] } }
theorem ends_start {top : Nat} {C : AgentC top} {D : SinkC} {w x1 x2 : World} {va vs : Nat} {U V : Nat → Prop} (a1 : C.At x1 va ag00 U) (a2 : Below w.heap.size w x1) (a3 : ∀ j, U j → w.heap.size ≤ j) (s1 : D.At x2 vs sk00 V) (s2 : Below x1.heap.size x1 x2) (s3 : ∀ j, V j → x1.heap.size ≤ j) :
  Ends C D w.heap.size 0 x2 va vs ag00 sk00 (fun _ => False) ∧ Below w.heap.size w x2 := by
 have hw1 := a2.size
 have hw2 := s2.size
 have hUl := C.lt a1
 exact ⟨⟨⟨U, V, C.far a1 (E := fun _ => False) (far_below s2) (fun _ _ e => e), s1, fun j hj e => by have := hUl j hj; have := s3 j e; omega, a3, fun j hj => Nat.le_trans hw1 (s3 j hj), fun j hj => hj.elim⟩, agGood_zero 0, skGood_new, by omega⟩, a2.trans (s2.mono hw1)⟩
theorem keepAgent_00 {top : Nat} (C : AgentC top) (w : World) :
  Calls Tryz.prog 18 #[] w fun r y => ∃ v U, r = .returned (ptrTo v) ∧ C.At y v ag00 U ∧ Below w.heap.size w y ∧ ∀ j, U j → w.heap.size ≤ j := keepAgent_any C w
theorem keepSink_00 (D : SinkC) (w : World) :
  Calls Tryz.prog 19 #[] w fun r y => ∃ v U, r = .returned (ptrTo v) ∧ D.At y v sk00 U ∧ Below w.heap.size w y ∧ ∀ j, U j → w.heap.size ≤ j := keepSink_any D w
end Go.Proofs.YtamafdcnbcoegaaGreat
namespace Go.Proofs.YtamafdcnbcoegaaGreat
def digF (n : Nat) : ByteArray := if n < 10 then ⟨#[UInt8.ofNat (48 + n)]⟩ else ⟨#[UInt8.ofNat (48 + n / 10), UInt8.ofNat (48 + n % 10)]⟩
theorem digB_F {n : Nat} (h : n < 100) : digB n = digF n := by
 unfold digB digF
 rw [digL]
 split
 ·rfl
 ·rw [digL, if_pos (by omega)]
  rfl
def saB (i : Nat) : ByteArray := ⟨#[97, UInt8.ofNat (48 + i)]⟩
def sbB (i : Nat) : ByteArray := ⟨#[98, UInt8.ofNat (48 + i)]⟩
theorem saB_is {i : Nat} (h : i < 10) : (⟨#[97]⟩ : ByteArray) ++ digB i = saB i := by
 rw [digB_F (by omega)]
 unfold digF saB
 rw [if_pos h]
 apply ByteArray.ext
 simp
theorem sbB_is {i : Nat} (h : i < 10) : (⟨#[98]⟩ : ByteArray) ++ digB i = sbB i := by
 rw [digB_F (by omega)]
 unfold digF sbB
 rw [if_pos h]
 apply ByteArray.ext
 simp
def fA : Nat → Mod.Ag
 | 0 => ag00
 | i + 1 => agSubmits (fA i) 0 (saB i)
def fA1 (n : Nat) : Mod.Ag := (exchM (fA n) sk00).1
def fS1 (n : Nat) : Mod.Sk := (exchM (fA n) sk00).2.1
def fB (n : Nat) : Nat → Mod.Ag
 | 0 => Mod.reop (fA1 n)
 | i + 1 => agSubmits (fB n i) 0 (sbB i)
def fB1 (n m : Nat) : Mod.Ag := (exchM (fB n m) (fS1 n)).1
def fS2 (n m : Nat) : Mod.Sk := (exchM (fB n m) (fS1 n)).2.1
def fT (n : Nat) : List (List UInt8) := (fA1 n).tick.2
def fSt (n m i : Nat) : Mod.Ag × Mod.Sk × Bool := tellM ((fA1 n).tick.1, fS2 n m, true) ((fT n).take i)
def fA3 (n m : Nat) : Mod.Ag := (fSt n m (fT n).length).1
def fS3 (n m : Nat) : Mod.Sk := (fSt n m (fT n).length).2.1
def fEnd (n m : Nat) : Mod.Ag × Mod.Sk := exN (fB1 n m) (fS3 n m) 12
def fFact (n m : Nat) : Bool :=
 (exchM (fB n m) (fS1 n)).2.2 && decide ((fA1 n).epoch = 1) && decide (0 < (fT n).length) && decide ((fT n).length ≤ 4)
  && ((List.range (fT n).length).all fun i => decide ((skSays (fSt n m i).2.1 ((fT n).getD i [])).1 = 0) && decide ((skSays (fSt n m i).2.1 ((fT n).getD i [])).2.2.length = 1))
  && decide (skLogs (fS3 n m) 0 = skLogs (fS2 n m) 0) && decide ((fA3 n m).tick.2 = []) && decide ((fEnd n m).2.epoch = 2) && decide ((skLogs (fEnd n m).2 0).length = n + m) && decide (agSpools (fEnd n m).1 0 = []) && decide ((skLogs (fS2 n m) 0).length ≤ 120)
theorem fFact_all : ∀ n, n < 5 → ∀ m, m < 5 → fFact (n + 1) m = true := by decide +kernel
theorem fA_ok : ∀ i, i < 5 → (fA i).refuses 0 (saB i).size = 0 := by decide +kernel
theorem reop_good {N : Nat} {a : Mod.Ag} (G : AgGood N a) (he : a.epoch < 2147483647) : AgGood N (Mod.reop a) := by
 have hb : ∀ s, s < 3 → ((Mod.reop a).fl s).base = (a.fl s).base := fun s hs => by unfold Mod.reop; simp only; rw [if_pos hs]
 have hk : ∀ s, s < 3 → ((Mod.reop a).fl s).kept = (a.fl s).kept.map fun x => (x.1, 0) := fun s hs => by unfold Mod.reop; simp only; rw [if_pos hs]
 refine ⟨?_, Nat.zero_le _, fun s hs => ?_, fun s hs x hx => ?_⟩
 ·show a.epoch + 1 ≤ 2147483647
  omega
 ·rw [hb s hs, hk s hs, List.length_map]
  exact G.sum s hs
 ·rw [hk s hs] at hx
  obtain ⟨y, hy, rfl⟩ := List.mem_map.1 hx
  exact ⟨(G.bod s hs y hy).1, Nat.zero_le _⟩
end Go.Proofs.YtamafdcnbcoegaaGreat
