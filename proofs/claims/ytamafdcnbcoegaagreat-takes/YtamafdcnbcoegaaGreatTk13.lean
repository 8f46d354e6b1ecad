/-
  Part 13 of a proof: K14, K15, K16, K17, K18, K19.
-/
import Derived.Test.YtamafdcnbcoegaaGreatTk12
namespace Go.Proofs.YtamafdcnbcoegaaGreat
open Go.RowKit

/-- One frame comes out. -/
theorem framesOut_one {B g : Nat} {z : World} {v : Value} {l : List UInt8} (hv : Owns B z v l) (hB : B ≤ g) (hg : z.heap[g]? = some (.cells #[v] 44 (0, 0))) : FramesOut B z (.slice (some ⟨g, 0, none⟩) 1 1) [v] [⟨l.toArray⟩] (fun _ => False) := by
  refine ⟨rfl, ⟨by simp, .inr ⟨g, 1, _, rfl, hB, hg, by simp, by unfold maxLen; omega, by simp, by simp⟩⟩, ?_, ?_, fun _ _ h => h⟩
  · intro j u hj
    cases j with
    | zero => simp at hj; subst hj; exact hv
    | succ j => simp at hj
  · intro i j u u' hi hj hne
    cases i with
    | zero =>
      cases j with
      | zero => exact absurd rfl hne
      | succ j => simp at hj
    | succ i => simp at hi
theorem framesOut_none (B : Nat) (z : World) : FramesOut B z (.slice none 0 0) [] [] (fun _ => False) :=
  ⟨rfl, World.ownsRow_nil _ _ _ _, fun j v hj => by simp at hj, fun i j u v hi => by simp at hi, fun _ _ h => h⟩

set_option maxRecDepth 100000 in
set_option maxHeartbeats 4000000 in
theorem answerByH_any {w : World} {p : Nat} {a2 : Mod.Sk} {c : Sv} (kd k e s q : Int) (b : ByteArray) (k' e' s' q' : Int) (b' : ByteArray) (hp : Wire.proper k' e' s' q' b' = true)
    (hC : ∀ y, Below w.heap.size w y → Calls Tryz.prog 109 #[ptrTo p, .agg #[.int .i64 k, .int .i64 e, .int .i64 s, .int .i64 q, .string b]] y fun r z => r = .returned (.tuple #[.agg #[.int .i64 k', .int .i64 e', .int .i64 s', .int .i64 q', .string b'], .int .i64 0]) ∧ SkIs y z p a2 c) :
    Calls Tryz.prog 98 #[.agg #[.int .i64 kd, .func (.func 109) #[ptrTo p] #[]], .agg #[.int .i64 k, .int .i64 e, .int .i64 s, .int .i64 q, .string b]] w fun r z =>
      ∃ lv fs x, r = .returned (.tuple #[lv, .int .i64 0]) ∧ SkIs w x p a2 c ∧ Below x.heap.size x z ∧ FramesOut x.heap.size z lv fs [⟨(Wire.bytes k' e' s' q' b'.data.toList).toArray⟩] (fun _ => False) := by
  have hFB := fun y => hide (frameBytes_any k' e' s' q' b' y hp)
  have hCC := fun y hy => hide (hC y hy)
  have HB0 := hide (alloc2 w (.cells #[.int .i64 kd, .func (.func 109) #[ptrTo p] #[]] 179) (.cells #[.int .i64 k, .int .i64 e, .int .i64 s, .int .i64 q, .string b] 41))
  clear hC hp
  unfold ptrTo at *
  go_enter Tryz.func98, Tryz.ntmps98
  go_upto_region 1 with fail
  refine wp_world (fun x => x.heap[w.heap.size]? = some (.cells #[.int .i64 kd, .func (.func 109) #[.pointer (some ⟨p, 0, none⟩)] #[]] 179 (0, 0)) ∧ x.heap[w.heap.size + 1]? = some (.cells #[.int .i64 k, .int .i64 e, .int .i64 s, .int .i64 q, .string b] 41 (0, 0)) ∧ Below w.heap.size w x) (unhide HB0) ?_
  clear HB0
  rintro x ⟨h0, h1, hb⟩
  have y1 := blk_cell (i := 1) h0
  have z0 := blk_cell (i := 0) h1
  have z1 := blk_cell (i := 1) h1
  have z2 := blk_cell (i := 2) h1
  have z3 := blk_cell (i := 3) h1
  have z4 := blk_cell (i := 4) h1
  simp at y1 z0 z1 z2 z3 z4
  have hCX := hide (unhide (hCC x hb))
  have HB := hide hb
  clear h0 h1 hb hCC
  go_upto_region 2 with (go_at_call 109; refine (unhide hCX).mono ?_; rintro r y ⟨rfl, hk⟩)
  obtain ⟨g6, hg6⟩ : ∃ g6, g6 = y.heap.size := ⟨_, rfl⟩
  have HG6 := hide hg6
  rw [← hg6]
  have HK := hide (hk.behind (unhide HB))
  clear hk hg6
  refine wp_world (fun u => u.heap[g6]? = some (.cells #[.int .i64 k', .int .i64 e', .int .i64 s', .int .i64 q', .string b'] 41 (0, 0)) ∧ Below y.heap.size y u) ?_ ?_
  · rw [unhide HG6]
    exact ⟨heap_alloc_new _ _, (Below.refl _ _).alloc (Nat.le_refl _) _⟩
  clear y1 z0 z1 z2 z3 z4 hCX
  rintro u ⟨h6, hbu⟩
  have z0 := blk_cell (i := 0) h6
  have z1 := blk_cell (i := 1) h6
  have z2 := blk_cell (i := 2) h6
  have z3 := blk_cell (i := 3) h6
  have z4 := blk_cell (i := 4) h6
  simp at z0 z1 z2 z3 z4
  have HU := hide hbu
  clear h6 hbu
  go_wp2_with (go_at_call 92; refine (unhide (hFB _)).mono ?_; rintro r v ⟨bv', rfl, hown, hb2⟩; obtain ⟨ad, cap, rfl, _⟩ := hown.shape; replace hown := hide hown; replace hb2 := hide hb2)
  go_ret2
  have hbv := (unhide hb2)
  have ho := unhide hown
  have hsz := (unhide HU).size
  have hb3 : Below y.heap.size y v := (unhide HU).trans (hbv.mono hsz)
  refine ⟨_, _, y, rfl, unhide HK, hb3.alloc hb3.size _, framesOut_one (World.ownsRow.alloc (ho.mono (by omega)) _) hb3.size (heap_alloc_new _ _)⟩

set_option maxRecDepth 100000 in
set_option maxHeartbeats 4000000 in
theorem answerByD_any {w : World} {p : Nat} {a2 : Mod.Sk} {c : Sv} (kd k e s q : Int) (b : ByteArray) (k' e' s' q' : Int) (b' : ByteArray) (hp : Wire.proper k' e' s' q' b' = true)
    (hC : ∀ y, Below w.heap.size w y → Calls Tryz.prog 110 #[ptrTo p, .agg #[.int .i64 k, .int .i64 e, .int .i64 s, .int .i64 q, .string b]] y fun r z => r = .returned (.tuple #[.agg #[.int .i64 k', .int .i64 e', .int .i64 s', .int .i64 q', .string b'], .int .i64 0]) ∧ SkIs y z p a2 c) :
    Calls Tryz.prog 98 #[.agg #[.int .i64 kd, .func (.func 110) #[ptrTo p] #[]], .agg #[.int .i64 k, .int .i64 e, .int .i64 s, .int .i64 q, .string b]] w fun r z =>
      ∃ lv fs x, r = .returned (.tuple #[lv, .int .i64 0]) ∧ SkIs w x p a2 c ∧ Below x.heap.size x z ∧ FramesOut x.heap.size z lv fs [⟨(Wire.bytes k' e' s' q' b'.data.toList).toArray⟩] (fun _ => False) := by
  have hFB := fun y => hide (frameBytes_any k' e' s' q' b' y hp)
  have hCC := fun y hy => hide (hC y hy)
  have HB0 := hide (alloc2 w (.cells #[.int .i64 kd, .func (.func 110) #[ptrTo p] #[]] 179) (.cells #[.int .i64 k, .int .i64 e, .int .i64 s, .int .i64 q, .string b] 41))
  clear hC hp
  unfold ptrTo at *
  go_enter Tryz.func98, Tryz.ntmps98
  go_upto_region 1 with fail
  refine wp_world (fun x => x.heap[w.heap.size]? = some (.cells #[.int .i64 kd, .func (.func 110) #[.pointer (some ⟨p, 0, none⟩)] #[]] 179 (0, 0)) ∧ x.heap[w.heap.size + 1]? = some (.cells #[.int .i64 k, .int .i64 e, .int .i64 s, .int .i64 q, .string b] 41 (0, 0)) ∧ Below w.heap.size w x) (unhide HB0) ?_
  clear HB0
  rintro x ⟨h0, h1, hb⟩
  have y1 := blk_cell (i := 1) h0
  have z0 := blk_cell (i := 0) h1
  have z1 := blk_cell (i := 1) h1
  have z2 := blk_cell (i := 2) h1
  have z3 := blk_cell (i := 3) h1
  have z4 := blk_cell (i := 4) h1
  simp at y1 z0 z1 z2 z3 z4
  have hCX := hide (unhide (hCC x hb))
  have HB := hide hb
  clear h0 h1 hb hCC
  go_upto_region 2 with (go_at_call 110; refine (unhide hCX).mono ?_; rintro r y ⟨rfl, hk⟩)
  obtain ⟨g6, hg6⟩ : ∃ g6, g6 = y.heap.size := ⟨_, rfl⟩
  have HG6 := hide hg6
  rw [← hg6]
  have HK := hide (hk.behind (unhide HB))
  clear hk hg6
  refine wp_world (fun u => u.heap[g6]? = some (.cells #[.int .i64 k', .int .i64 e', .int .i64 s', .int .i64 q', .string b'] 41 (0, 0)) ∧ Below y.heap.size y u) ?_ ?_
  · rw [unhide HG6]
    exact ⟨heap_alloc_new _ _, (Below.refl _ _).alloc (Nat.le_refl _) _⟩
  clear y1 z0 z1 z2 z3 z4 hCX
  rintro u ⟨h6, hbu⟩
  have z0 := blk_cell (i := 0) h6
  have z1 := blk_cell (i := 1) h6
  have z2 := blk_cell (i := 2) h6
  have z3 := blk_cell (i := 3) h6
  have z4 := blk_cell (i := 4) h6
  simp at z0 z1 z2 z3 z4
  have HU := hide hbu
  clear h6 hbu
  go_wp2_with (go_at_call 92; refine (unhide (hFB _)).mono ?_; rintro r v ⟨bv', rfl, hown, hb2⟩; obtain ⟨ad, cap, rfl, _⟩ := hown.shape; replace hown := hide hown; replace hb2 := hide hb2)
  go_ret2
  have hbv := (unhide hb2)
  have ho := unhide hown
  have hsz := (unhide HU).size
  have hb3 : Below y.heap.size y v := (unhide HU).trans (hbv.mono hsz)
  refine ⟨_, _, y, rfl, unhide HK, hb3.alloc hb3.size _, framesOut_one (World.ownsRow.alloc (ho.mono (by omega)) _) hb3.size (heap_alloc_new _ _)⟩
end Go.Proofs.YtamafdcnbcoegaaGreat
namespace Go.Proofs.YtamafdcnbcoegaaGreat
open Go.RowKit

/-- What comes out of a Deliver. -/
def DlOut (w z : World) (p : Nat) (a2 : Mod.Sk) (c : Sv) (err : Int) (r : Ending) (Fl : List ByteArray) : Prop :=
  ∃ lv fs x, r = .returned (.tuple #[lv, .int .i64 err]) ∧ SkIs w x p a2 c ∧ Below x.heap.size x z ∧ FramesOut x.heap.size z lv fs Fl (fun _ => False)
set_option maxRecDepth 100000 in
set_option maxHeartbeats 4000000 in
theorem sinkDeliver_no {w : World} {p : Nat} {a : Mod.Sk} {sh : Nat → List (Nat × Value)} {st : Mod.Stv} {c : Sv} (H : PkAt w p a.epoch a.logs sh st c) (hs : Sound st) (O : OnSh a.held sh) (bs : Value) (l : List UInt8) (hat : BytesAt w bs l) (hr : Wire.reads l = false) :
    Calls Tryz.prog 56 #[ptrTo p, bs] w fun r z => DlOut w z p a c 1 r [] := by
  have c0 : w.cell? ⟨p, 0, none⟩ = some (ptrTo c.s) := by rw [blk_cell H.ks.blk, H.ks.a0]
  have hID := storeIsDead_any H.stt
  rw [hs.1] at hID
  have HID := hide hID
  have hDC := decode_any bs l w hat
  rw [hr] at hDC
  simp only [Bool.false_eq_true, if_false, zeroFr] at hDC
  have HDC := hide hDC
  have HK := hide (skIs_refl H hs O)
  clear H hID hDC
  unfold ptrTo at *
  go_enter Tryz.func56, Tryz.ntmps56
  go_wp2_with (first | (go_at_call 86; refine (unhide HID).mono ?_; rintro r y ⟨rfl, rfl⟩) | (go_at_call 54; refine (unhide HDC).mono ?_; rintro r y ⟨rfl, hb⟩; replace hb := hide hb))
  go_ret2
  exact ⟨_, _, y, rfl, (unhide HK).below (unhide hb), (Below.refl _ _).alloc (Nat.le_refl _) _, framesOut_none _ _⟩

set_option maxRecDepth 100000 in
set_option maxHeartbeats 4000000 in
theorem sinkDeliverH_any {w : World} {p : Nat} {a a2 : Mod.Sk} {sh : Nat → List (Nat × Value)} {st : Mod.Stv} {c : Sv} (H : PkAt w p a.epoch a.logs sh st c) (hs : Sound st) (O : OnSh a.held sh) (bs : Value) (k e s q : Int) (b : ByteArray) (hk : k = 1) {Fl : List ByteArray}
    (hDec : ∀ y, Below w.heap.size w y → Calls Tryz.prog 54 #[bs] y fun r z => r = .returned (.tuple #[.agg #[.int .i64 k, .int .i64 e, .int .i64 s, .int .i64 q, .string b], .int .i64 0]) ∧ Below y.heap.size y z)
    (hC : ∀ y, Below w.heap.size w y → Calls Tryz.prog 98 #[.agg #[.int .i64 1, .func (.func 109) #[ptrTo p] #[]], .agg #[.int .i64 k, .int .i64 e, .int .i64 s, .int .i64 q, .string b]] y fun r z =>
      ∃ lv fs x, r = .returned (.tuple #[lv, .int .i64 0]) ∧ SkIs y x p a2 c ∧ Below x.heap.size x z ∧ FramesOut x.heap.size z lv fs Fl (fun _ => False)) :
    Calls Tryz.prog 56 #[ptrTo p, bs] w fun r z => DlOut w z p a2 c 0 r Fl := by
  have c0 : w.cell? ⟨p, 0, none⟩ = some (ptrTo c.s) := by rw [blk_cell H.ks.blk, H.ks.a0]
  have hID := storeIsDead_any H.stt
  rw [hs.1] at hID
  have HID := hide hID
  have HDC := hide (hDec w (Below.refl _ _))
  subst hk
  have hCC := fun y hy => hide (hC y hy)
  clear hC
  obtain ⟨ad, cap, hrv, hcap1, hcap2, hcells⟩ := H.rl.shape
  obtain ⟨g, o, rfl, hcl⟩ := hcells (by omega)
  have r0 : w.cell? ⟨g, o, none⟩ = some (.int .i64 1) := by have := hcl 0 (by omega); simpa [rulesOf] using this
  have r1 : w.cell? ⟨g, o + 1, none⟩ = some (.func (.func 109) #[ptrTo p] #[]) := by have := hcl 1 (by omega); simpa [rulesOf] using this
  have r2 : w.cell? ⟨g, o + 2, none⟩ = some (.int .i64 3) := by have := hcl 2 (by omega); simpa [rulesOf] using this
  have r3 : w.cell? ⟨g, o + 2 + 1, none⟩ = some (.func (.func 110) #[ptrTo p] #[]) := by have := hcl 3 (by omega); simpa [rulesOf] using this
  have c11 : w.cell? ⟨p, 11, none⟩ = some (.slice (some ⟨g, o, none⟩) 2 cap) := by rw [blk_cell H.ks.blk, H.ks.ar, hrv]
  have hgl : g < w.heap.size := World.block_lt_of_cell? _ _ r0
  have hpl := lt_of_block H.ks.blk
  have HST := hide (skIs_refl H hs O)
  clear H hID hDec hcl hcells hrv
  unfold ptrTo at *
  go_enter Tryz.func56, Tryz.ntmps56
  go_upto_region 4 with (first | (go_at_call 86; refine (unhide HID).mono ?_; rintro r y ⟨rfl, hyw⟩; obtain rfl : w = y := hyw.symm) | (go_at_call 54; refine (unhide HDC).mono ?_; rintro r y ⟨rfl, hb⟩))
  obtain ⟨g6, hg6⟩ : ∃ g6, g6 = y.heap.size := ⟨_, rfl⟩
  have hgw : w.heap.size ≤ g6 := by have := hb.size; omega
  have HG6 := hide hg6
  have HB := hide hb
  rw [← hg6]
  clear hg6 hb
  refine wp_world (fun u => u.heap[g6]? = some (.cells #[.int .i64 1, .int .i64 e, .int .i64 s, .int .i64 q, .string b] 41 (0, 0)) ∧ Below w.heap.size w u) ?_ ?_
  · rw [unhide HG6]
    exact ⟨heap_alloc_new _ _, (unhide HB).alloc (unhide HB).size _⟩
  clear HG6 HB c0 HDC HID
  rintro u ⟨h6, hbu⟩
  have d11 := (hbu.cell (p := ⟨p, 11, none⟩) hpl).trans c11
  have H6 := hide h6
  have HU := hide hbu
  clear h6 hbu
  go_wp2
  go_loopw [9, 28] (fun _ i wr => ∃ j : Nat, j ≤ 0 ∧ i = .int .i64 j ∧ wr.heap[g6]? = some (.cells #[.int .i64 1, .int .i64 e, .int .i64 s, .int .i64 q, .string b] 41 (0, 0)) ∧ Below w.heap.size w wr) (fun _ i _ => 3 - (intOf i).toNat)
  case atStart => exact ⟨0, by omega, rfl, unhide H6, unhide HU⟩
  case round =>
    obtain ⟨j, hj, rfl, h6, hb⟩ := hrel
    clear H6 HU d11
    have s0 := (hb.cell (p := ⟨g, o, none⟩) hgl).trans r0
    have s1 := (hb.cell (p := ⟨g, o + 1, none⟩) hgl).trans r1
    have s2 := (hb.cell (p := ⟨g, o + 2, none⟩) hgl).trans r2
    have s3 := (hb.cell (p := ⟨g, o + 2 + 1, none⟩) hgl).trans r3
    have y0 := blk_cell (i := 0) h6
    have y1 := blk_cell (i := 1) h6
    have y2 := blk_cell (i := 2) h6
    have y3 := blk_cell (i := 3) h6
    have y4 := blk_cell (i := 4) h6
    simp at y0 y1 y2 y3 y4
    have h6l := lt_of_block h6
    have HH6 := hide h6
    have HBB := hide hb
    have hnext : ∀ ob, (wr.alloc ob).heap[g6]? = some (.cells #[.int .i64 1, .int .i64 e, .int .i64 s, .int .i64 q, .string b] 41 (0, 0)) ∧ Below w.heap.size w (wr.alloc ob) := fun ob => ⟨(heap_alloc_old _ _ h6l).trans h6, hb.alloc hb.size _⟩
    have HNX := hide hnext
    clear h6 hb hnext r0 r1 r2 r3
    have hsf1 : ∀ (ad : Addr) (m : Mode) (z : World), (store ad (.func (.func 109) #[.pointer (some ⟨p, 0, none⟩)] #[]) m).run Tryz.prog z = stored Tryz.prog z ad (.func (.func 109) #[.pointer (some ⟨p, 0, none⟩)] #[]) m := fun ad m z => run_store _ _ _ _ _ rfl
    have hsf2 : ∀ (ad : Addr) (m : Mode) (z : World), (store ad (.func (.func 110) #[.pointer (some ⟨p, 0, none⟩)] #[]) m).run Tryz.prog z = stored Tryz.prog z ad (.func (.func 110) #[.pointer (some ⟨p, 0, none⟩)] #[]) m := fun ad m z => run_store _ _ _ _ _ rfl
    obtain rfl : j = 0 := by omega
    focus
      go_wp2_with (go_at_call 98; refine (unhide (hCC _ (by first | exact ((unhide HNX) _).2 | exact (unhide HBB)))).mono ?_; rintro r z ⟨lv, fs, x, rfl, k1, k2, k3⟩; replace k1 := hide k1; replace k2 := hide k2; replace k3 := hide k3)
      go_ret2
      exact ⟨lv, fs, x, rfl, (unhide k1).behind (by first | exact ((unhide HNX) _).2 | exact (unhide HBB)), unhide k2, unhide k3⟩

set_option maxRecDepth 100000 in
set_option maxHeartbeats 4000000 in
theorem sinkDeliverD_any {w : World} {p : Nat} {a a2 : Mod.Sk} {sh : Nat → List (Nat × Value)} {st : Mod.Stv} {c : Sv} (H : PkAt w p a.epoch a.logs sh st c) (hs : Sound st) (O : OnSh a.held sh) (bs : Value) (k e s q : Int) (b : ByteArray) (hk : k = 3) {Fl : List ByteArray}
    (hDec : ∀ y, Below w.heap.size w y → Calls Tryz.prog 54 #[bs] y fun r z => r = .returned (.tuple #[.agg #[.int .i64 k, .int .i64 e, .int .i64 s, .int .i64 q, .string b], .int .i64 0]) ∧ Below y.heap.size y z)
    (hC : ∀ y, Below w.heap.size w y → Calls Tryz.prog 98 #[.agg #[.int .i64 3, .func (.func 110) #[ptrTo p] #[]], .agg #[.int .i64 k, .int .i64 e, .int .i64 s, .int .i64 q, .string b]] y fun r z =>
      ∃ lv fs x, r = .returned (.tuple #[lv, .int .i64 0]) ∧ SkIs y x p a2 c ∧ Below x.heap.size x z ∧ FramesOut x.heap.size z lv fs Fl (fun _ => False)) :
    Calls Tryz.prog 56 #[ptrTo p, bs] w fun r z => DlOut w z p a2 c 0 r Fl := by
  have c0 : w.cell? ⟨p, 0, none⟩ = some (ptrTo c.s) := by rw [blk_cell H.ks.blk, H.ks.a0]
  have hID := storeIsDead_any H.stt
  rw [hs.1] at hID
  have HID := hide hID
  have HDC := hide (hDec w (Below.refl _ _))
  subst hk
  have hCC := fun y hy => hide (hC y hy)
  clear hC
  obtain ⟨ad, cap, hrv, hcap1, hcap2, hcells⟩ := H.rl.shape
  obtain ⟨g, o, rfl, hcl⟩ := hcells (by omega)
  have r0 : w.cell? ⟨g, o, none⟩ = some (.int .i64 1) := by have := hcl 0 (by omega); simpa [rulesOf] using this
  have r1 : w.cell? ⟨g, o + 1, none⟩ = some (.func (.func 109) #[ptrTo p] #[]) := by have := hcl 1 (by omega); simpa [rulesOf] using this
  have r2 : w.cell? ⟨g, o + 2, none⟩ = some (.int .i64 3) := by have := hcl 2 (by omega); simpa [rulesOf] using this
  have r3 : w.cell? ⟨g, o + 2 + 1, none⟩ = some (.func (.func 110) #[ptrTo p] #[]) := by have := hcl 3 (by omega); simpa [rulesOf] using this
  have c11 : w.cell? ⟨p, 11, none⟩ = some (.slice (some ⟨g, o, none⟩) 2 cap) := by rw [blk_cell H.ks.blk, H.ks.ar, hrv]
  have hgl : g < w.heap.size := World.block_lt_of_cell? _ _ r0
  have hpl := lt_of_block H.ks.blk
  have HST := hide (skIs_refl H hs O)
  clear H hID hDec hcl hcells hrv
  unfold ptrTo at *
  go_enter Tryz.func56, Tryz.ntmps56
  go_upto_region 4 with (first | (go_at_call 86; refine (unhide HID).mono ?_; rintro r y ⟨rfl, hyw⟩; obtain rfl : w = y := hyw.symm) | (go_at_call 54; refine (unhide HDC).mono ?_; rintro r y ⟨rfl, hb⟩))
  obtain ⟨g6, hg6⟩ : ∃ g6, g6 = y.heap.size := ⟨_, rfl⟩
  have hgw : w.heap.size ≤ g6 := by have := hb.size; omega
  have HG6 := hide hg6
  have HB := hide hb
  rw [← hg6]
  clear hg6 hb
  refine wp_world (fun u => u.heap[g6]? = some (.cells #[.int .i64 3, .int .i64 e, .int .i64 s, .int .i64 q, .string b] 41 (0, 0)) ∧ Below w.heap.size w u) ?_ ?_
  · rw [unhide HG6]
    exact ⟨heap_alloc_new _ _, (unhide HB).alloc (unhide HB).size _⟩
  clear HG6 HB c0 HDC HID
  rintro u ⟨h6, hbu⟩
  have d11 := (hbu.cell (p := ⟨p, 11, none⟩) hpl).trans c11
  have H6 := hide h6
  have HU := hide hbu
  clear h6 hbu
  go_wp2
  go_loopw [9, 28] (fun _ i wr => ∃ j : Nat, j ≤ 1 ∧ i = .int .i64 j ∧ wr.heap[g6]? = some (.cells #[.int .i64 3, .int .i64 e, .int .i64 s, .int .i64 q, .string b] 41 (0, 0)) ∧ Below w.heap.size w wr) (fun _ i _ => 3 - (intOf i).toNat)
  case atStart => exact ⟨0, by omega, rfl, unhide H6, unhide HU⟩
  case round =>
    obtain ⟨j, hj, rfl, h6, hb⟩ := hrel
    clear H6 HU d11
    have s0 := (hb.cell (p := ⟨g, o, none⟩) hgl).trans r0
    have s1 := (hb.cell (p := ⟨g, o + 1, none⟩) hgl).trans r1
    have s2 := (hb.cell (p := ⟨g, o + 2, none⟩) hgl).trans r2
    have s3 := (hb.cell (p := ⟨g, o + 2 + 1, none⟩) hgl).trans r3
    have y0 := blk_cell (i := 0) h6
    have y1 := blk_cell (i := 1) h6
    have y2 := blk_cell (i := 2) h6
    have y3 := blk_cell (i := 3) h6
    have y4 := blk_cell (i := 4) h6
    simp at y0 y1 y2 y3 y4
    have h6l := lt_of_block h6
    have HH6 := hide h6
    have HBB := hide hb
    have hnext : ∀ ob, (wr.alloc ob).heap[g6]? = some (.cells #[.int .i64 3, .int .i64 e, .int .i64 s, .int .i64 q, .string b] 41 (0, 0)) ∧ Below w.heap.size w (wr.alloc ob) := fun ob => ⟨(heap_alloc_old _ _ h6l).trans h6, hb.alloc hb.size _⟩
    have HNX := hide hnext
    clear h6 hb hnext r0 r1 r2 r3
    have hsf1 : ∀ (ad : Addr) (m : Mode) (z : World), (store ad (.func (.func 109) #[.pointer (some ⟨p, 0, none⟩)] #[]) m).run Tryz.prog z = stored Tryz.prog z ad (.func (.func 109) #[.pointer (some ⟨p, 0, none⟩)] #[]) m := fun ad m z => run_store _ _ _ _ _ rfl
    have hsf2 : ∀ (ad : Addr) (m : Mode) (z : World), (store ad (.func (.func 110) #[.pointer (some ⟨p, 0, none⟩)] #[]) m).run Tryz.prog z = stored Tryz.prog z ad (.func (.func 110) #[.pointer (some ⟨p, 0, none⟩)] #[]) m := fun ad m z => run_store _ _ _ _ _ rfl
    rcases (show j = 0 ∨ j = 1 by omega) with rfl | rfl
    focus
      go_wp2
      exact ⟨⟨1, by omega, by go_num, (unhide HNX) _⟩, by simp [intOf]⟩
    focus
      go_wp2_with (go_at_call 98; refine (unhide (hCC _ (by first | exact ((unhide HNX) _).2 | exact (unhide HBB)))).mono ?_; rintro r z ⟨lv, fs, x, rfl, k1, k2, k3⟩; replace k1 := hide k1; replace k2 := hide k2; replace k3 := hide k3)
      go_ret2
      exact ⟨lv, fs, x, rfl, (unhide k1).behind (by first | exact ((unhide HNX) _).2 | exact (unhide HBB)), unhide k2, unhide k3⟩

set_option maxRecDepth 100000 in
set_option maxHeartbeats 4000000 in
theorem sinkDeliverN_any {w : World} {p : Nat} {a : Mod.Sk} {sh : Nat → List (Nat × Value)} {st : Mod.Stv} {c : Sv} (H : PkAt w p a.epoch a.logs sh st c) (hs : Sound st) (O : OnSh a.held sh) (bs : Value) (k e s q : Int) (b : ByteArray) (hk1 : ¬ k = 1) (hk3 : ¬ k = 3)
    (hDec : ∀ y, Below w.heap.size w y → Calls Tryz.prog 54 #[bs] y fun r z => r = .returned (.tuple #[.agg #[.int .i64 k, .int .i64 e, .int .i64 s, .int .i64 q, .string b], .int .i64 0]) ∧ Below y.heap.size y z) :
    Calls Tryz.prog 56 #[ptrTo p, bs] w fun r z => DlOut w z p a c 0 r [] := by
  have c0 : w.cell? ⟨p, 0, none⟩ = some (ptrTo c.s) := by rw [blk_cell H.ks.blk, H.ks.a0]
  have hID := storeIsDead_any H.stt
  rw [hs.1] at hID
  have HID := hide hID
  have HDC := hide (hDec w (Below.refl _ _))
  have e1 : ((1 : Int) == k) = false := by simp; omega
  have e3 : ((3 : Int) == k) = false := by simp; omega
  obtain ⟨ad, cap, hrv, hcap1, hcap2, hcells⟩ := H.rl.shape
  obtain ⟨g, o, rfl, hcl⟩ := hcells (by omega)
  have r0 : w.cell? ⟨g, o, none⟩ = some (.int .i64 1) := by have := hcl 0 (by omega); simpa [rulesOf] using this
  have r1 : w.cell? ⟨g, o + 1, none⟩ = some (.func (.func 109) #[ptrTo p] #[]) := by have := hcl 1 (by omega); simpa [rulesOf] using this
  have r2 : w.cell? ⟨g, o + 2, none⟩ = some (.int .i64 3) := by have := hcl 2 (by omega); simpa [rulesOf] using this
  have r3 : w.cell? ⟨g, o + 2 + 1, none⟩ = some (.func (.func 110) #[ptrTo p] #[]) := by have := hcl 3 (by omega); simpa [rulesOf] using this
  have c11 : w.cell? ⟨p, 11, none⟩ = some (.slice (some ⟨g, o, none⟩) 2 cap) := by rw [blk_cell H.ks.blk, H.ks.ar, hrv]
  have hgl : g < w.heap.size := World.block_lt_of_cell? _ _ r0
  have hpl := lt_of_block H.ks.blk
  have HST := hide (skIs_refl H hs O)
  clear H hID hDec hcl hcells hrv
  unfold ptrTo at *
  go_enter Tryz.func56, Tryz.ntmps56
  go_upto_region 4 with (first | (go_at_call 86; refine (unhide HID).mono ?_; rintro r y ⟨rfl, hyw⟩; obtain rfl : w = y := hyw.symm) | (go_at_call 54; refine (unhide HDC).mono ?_; rintro r y ⟨rfl, hb⟩))
  obtain ⟨g6, hg6⟩ : ∃ g6, g6 = y.heap.size := ⟨_, rfl⟩
  have hgw : w.heap.size ≤ g6 := by have := hb.size; omega
  have HG6 := hide hg6
  have HB := hide hb
  rw [← hg6]
  clear hg6 hb
  refine wp_world (fun u => u.heap[g6]? = some (.cells #[.int .i64 k, .int .i64 e, .int .i64 s, .int .i64 q, .string b] 41 (0, 0)) ∧ Below w.heap.size w u) ?_ ?_
  · rw [unhide HG6]
    exact ⟨heap_alloc_new _ _, (unhide HB).alloc (unhide HB).size _⟩
  clear HG6 HB c0 HDC HID
  rintro u ⟨h6, hbu⟩
  have d11 := (hbu.cell (p := ⟨p, 11, none⟩) hpl).trans c11
  have H6 := hide h6
  have HU := hide hbu
  clear h6 hbu
  go_wp2
  go_loopw [9, 28] (fun _ i wr => ∃ j : Nat, j ≤ 2 ∧ i = .int .i64 j ∧ wr.heap[g6]? = some (.cells #[.int .i64 k, .int .i64 e, .int .i64 s, .int .i64 q, .string b] 41 (0, 0)) ∧ Below w.heap.size w wr) (fun _ i _ => 3 - (intOf i).toNat)
  case atStart => exact ⟨0, by omega, rfl, unhide H6, unhide HU⟩
  case round =>
    obtain ⟨j, hj, rfl, h6, hb⟩ := hrel
    clear H6 HU d11
    have s0 := (hb.cell (p := ⟨g, o, none⟩) hgl).trans r0
    have s1 := (hb.cell (p := ⟨g, o + 1, none⟩) hgl).trans r1
    have s2 := (hb.cell (p := ⟨g, o + 2, none⟩) hgl).trans r2
    have s3 := (hb.cell (p := ⟨g, o + 2 + 1, none⟩) hgl).trans r3
    have y0 := blk_cell (i := 0) h6
    have y1 := blk_cell (i := 1) h6
    have y2 := blk_cell (i := 2) h6
    have y3 := blk_cell (i := 3) h6
    have y4 := blk_cell (i := 4) h6
    simp at y0 y1 y2 y3 y4
    have h6l := lt_of_block h6
    have HH6 := hide h6
    have HBB := hide hb
    have hnext : ∀ ob, (wr.alloc ob).heap[g6]? = some (.cells #[.int .i64 k, .int .i64 e, .int .i64 s, .int .i64 q, .string b] 41 (0, 0)) ∧ Below w.heap.size w (wr.alloc ob) := fun ob => ⟨(heap_alloc_old _ _ h6l).trans h6, hb.alloc hb.size _⟩
    have HNX := hide hnext
    clear h6 hb hnext r0 r1 r2 r3
    have hsf1 : ∀ (ad : Addr) (m : Mode) (z : World), (store ad (.func (.func 109) #[.pointer (some ⟨p, 0, none⟩)] #[]) m).run Tryz.prog z = stored Tryz.prog z ad (.func (.func 109) #[.pointer (some ⟨p, 0, none⟩)] #[]) m := fun ad m z => run_store _ _ _ _ _ rfl
    have hsf2 : ∀ (ad : Addr) (m : Mode) (z : World), (store ad (.func (.func 110) #[.pointer (some ⟨p, 0, none⟩)] #[]) m).run Tryz.prog z = stored Tryz.prog z ad (.func (.func 110) #[.pointer (some ⟨p, 0, none⟩)] #[]) m := fun ad m z => run_store _ _ _ _ _ rfl
    rcases (show j = 0 ∨ j = 1 ∨ j = 2 by omega) with rfl | rfl | rfl
    focus
      go_wp2
      exact ⟨⟨1, by omega, by go_num, (unhide HNX) _⟩, by simp [intOf]⟩
    focus
      go_wp2
      exact ⟨⟨2, by omega, by go_num, (unhide HNX) _⟩, by simp [intOf]⟩
    focus
      go_wp2
      go_ret2
      exact ⟨_, _, w, rfl, unhide HST, unhide HBB, framesOut_none _ _⟩
end Go.Proofs.YtamafdcnbcoegaaGreat
namespace Go.Proofs.YtamafdcnbcoegaaGreat
open Go.RowKit

theorem fence_proper (n : Nat) (hn : n ≤ 2147483647) : Wire.proper 5 n 0 0 ⟨#[]⟩ = true := by
  simp [Wire.proper, Wire.isNum, ByteArray.size]; omega
theorem reads_parts {l : List UInt8} (hr : Wire.reads l = true) : ∃ (k : Int) (e s q : Nat) (b : ByteArray), Wire.kindOf l = k ∧ Wire.epochOf l = e ∧ Wire.streamOf l = s ∧ Wire.seqOf l = q ∧ Wire.bodyOf l = b ∧ e ≤ 2147483647 ∧ s < 3 ∧ q ≤ 2147483647 ∧ b.size ≤ 20 := by
  have hp := hr
  unfold Wire.reads at hp
  rw [Bool.and_eq_true] at hp
  obtain ⟨_, h2, h3, h4, h5⟩ := proper_small hp.2
  exact ⟨_, (Wire.epochOf l).toNat, (Wire.streamOf l).toNat, (Wire.seqOf l).toNat, _, rfl, by omega, by omega, by omega, rfl, by omega, by omega, by omega, h5⟩
theorem skSays_yes {a : Mod.Sk} {l : List UInt8} (hr : Wire.reads l = true) {k : Int} {e s q : Nat} {b : ByteArray} (h1 : Wire.kindOf l = k) (h2 : Wire.epochOf l = e) (h3 : Wire.streamOf l = s) (h4 : Wire.seqOf l = q) (h5 : Wire.bodyOf l = b) :
    skSays a l = (0, skReply a k e s q b) := by
  unfold skSays
  rw [hr, h1, h2, h3, h4, h5]
  rfl
theorem skSays_no {a : Mod.Sk} {l : List UInt8} (hr : Wire.reads l = false) : skSays a l = (1, a, []) := by
  unfold skSays
  rw [hr]
  rfl
theorem skMore_reply {a : Mod.Sk} (M : SkMore a) (k : Int) (e s q : Nat) (b : ByteArray) (hs : s < 3) (hb : b.size ≤ 20) : SkMore (skReply a k e s q b).1 := by
  unfold skReply
  split
  · split
    · exact M
    · exact skMore_hello M _
  · split
    · rename_i h3
      subst h3
      split
      · rename_i he
        rw [he]
        exact skMore_after M s q b hs hb
      · exact M
    · exact M
theorem skMore_says {a : Mod.Sk} (M : SkMore a) (l : List UInt8) : SkMore (skSays a l).2.1 := by
  cases hr : Wire.reads l
  · rw [skSays_no hr]; exact M
  · obtain ⟨k, e, s, q, b, h1, h2, h3, h4, h5, g1, g2, g3, g4⟩ := reads_parts hr
    rw [skSays_yes hr h1 h2 h3 h4 h5]
    exact skMore_reply M k e s q b g2 g4
theorem sinkDeliver_any {w : World} {p : Nat} {a : Mod.Sk} {sh : Nat → List (Nat × Value)} {st : Mod.Stv} {c : Sv} (H : PkAt w p a.epoch a.logs sh st c) (hs : Sound st) (G : SkGood a) (M : SkMore a) (O : OnSh a.held sh) (bs : Value) (l : List UInt8) (hat : BytesAt w bs l) :
    Calls Tryz.prog 56 #[ptrTo p, bs] w fun r z => DlOut w z p (skSays a l).2.1 c (skSays a l).1 r (skSays a l).2.2 := by
  cases hr : Wire.reads l
  · rw [skSays_no hr]
    exact sinkDeliver_no H hs O bs l hat hr
  · obtain ⟨k, e, s, q, b, h1, h2, h3, h4, h5, g1, g2, g3, g4⟩ := reads_parts hr
    rw [skSays_yes hr h1 h2 h3 h4 h5]
    have hDec : ∀ y, Below w.heap.size w y → Calls Tryz.prog 54 #[bs] y fun r z => r = .returned (.tuple #[.agg #[.int .i64 k, .int .i64 e, .int .i64 s, .int .i64 q, .string b], .int .i64 0]) ∧ Below y.heap.size y z := fun y hy => by
      have := decode_any bs l y (hat.below hy)
      rw [hr] at this
      simp only [if_true, frVal, h1, h2, h3, h4, h5] at this
      exact this
    have HY := fun y (hy : Below w.heap.size w y) => H.far (far_below (E := fun _ => False) hy) (fun _ _ h => h)
    have n0 := H.ks.loglen (i := 0) (by omega)
    have n1 := H.ks.loglen (i := 1) (by omega)
    have n2 := H.ks.loglen (i := 2) (by omega)
    have hep := H.ks.ep
    unfold skReply
    by_cases k1 : k = 1
    · rw [if_pos k1]
      by_cases hlt : (e : Int) < a.epoch
      · rw [if_pos hlt]
        refine sinkDeliverH_any H hs O bs k e s q b k1 hDec (fun y hy => ?_)
        subst k1
        refine answerByH_any 1 1 e s q b 5 a.epoch 0 0 ⟨#[]⟩ (fence_proper _ hep) (fun z hz => ?_)
        have hwz : Below w.heap.size w z := hy.trans (hz.mono hy.size)
        refine (answerHello_old (HY z hwz) e s q b (by omega)).mono ?_
        rintro r u ⟨rfl, hb⟩
        exact ⟨rfl, (skIs_refl (HY z hwz) hs O).below hb⟩
      · rw [if_neg hlt]
        have hE : (e : Int).toNat = e := by omega
        rw [hE]
        refine sinkDeliverH_any H hs O bs k e s q b k1 hDec (fun y hy => ?_)
        subst k1
        refine answerByH_any 1 1 e s q b 2 e 0 0 (welB a) (wel_proper g1 n0 n1 n2) (fun z hz => ?_)
        have hwz : Below w.heap.size w z := hy.trans (hz.mono hy.size)
        exact answerHello_new (HY z hwz) hs O e s q b (by omega) g1
    · rw [if_neg k1]
      by_cases k3 : k = 3
      · rw [if_pos k3]
        by_cases he : (e : Int) = a.epoch
        · rw [if_pos he]
          have he' : e = a.epoch := by omega
          subst k3
          rw [he] at hDec ⊢
          refine sinkDeliverD_any H hs O bs 3 a.epoch s q b rfl hDec (fun y hy => ?_)
          have hR := skGood_reply G 3 a.epoch s q b g2 (by omega)
          refine answerByD_any 3 3 a.epoch s q b 4 a.epoch s _ _ ?_ (fun z hz => ?_)
          · have hl : (skAfter a 3 a.epoch s q b).logs s = (skAfter a 3 a.epoch s q b).logs s := rfl
            have hepE : (skAfter a 3 a.epoch s q b).epoch = a.epoch := by
              unfold skAfter
              split
              · exact holdIt_epoch _ _ _ _
              · rfl
            have hG : SkGood (skAfter a 3 a.epoch s q b) := by
              unfold skReply at hR
              rw [if_neg (by omega), if_pos rfl, if_pos rfl] at hR
              exact hR
            have hc := count_len (a := skAfter a 3 a.epoch s q b) g2
            have hrm := hG.room
            have := ack_proper (a := skAfter a 3 a.epoch s q b) (s := s) (up := ((skAfter a 3 a.epoch s q b).logs s).length) hG.ep g2 (by omega)
            rw [hepE] at this
            exact this
          · have hwz : Below w.heap.size w z := hy.trans (hz.mono hy.size)
            exact answerData_same (HY z hwz) hs G M O s q g2 g3 b g4
        · rw [if_neg he]
          have hE : max (e : Int).toNat a.epoch = max e a.epoch := rfl
          rw [hE]
          subst k3
          refine sinkDeliverD_any H hs O bs 3 e s q b rfl hDec (fun y hy => ?_)
          refine answerByD_any 3 3 e s q b 5 (max e a.epoch : Nat) 0 0 ⟨#[]⟩ (fence_proper _ (by omega)) (fun z hz => ?_)
          have hwz : Below w.heap.size w z := hy.trans (hz.mono hy.size)
          refine (answerData_other (HY z hwz) e s q b (by omega)).mono ?_
          rintro r u ⟨rfl, hb⟩
          exact ⟨rfl, (skIs_refl (HY z hwz) hs O).below hb⟩
      · rw [if_neg k3]
        exact sinkDeliverN_any H hs O bs k e s q b k1 k3 hDec
end Go.Proofs.YtamafdcnbcoegaaGreat
namespace Go.Proofs.YtamafdcnbcoegaaGreat
open Go.RowKit

theorem sinkEpoch_any {w : World} {p e : Nat} {logs : Nat → List ByteArray} {sh : Nat → List (Nat × Value)} {st : Mod.Stv} {c : Sv} (H : PkAt w p e logs sh st c) :
    Calls Tryz.prog 67 #[ptrTo p] w fun r w' => r = .returned (.int .i64 e) ∧ w' = w := by
  have c1 : w.cell? ⟨p, 1, none⟩ = some (.int .i64 e) := by rw [blk_cell H.ks.blk, H.ks.a1]
  clear H
  unfold ptrTo
  go_enter Tryz.func67, Tryz.ntmps67
  go_wp2
  go_ret
  exact ⟨rfl, rfl⟩
theorem cloneStrs_any {w : World} {v : Value} {l : List ByteArray} (h : RowO w 9 1 v l.length (strs l)) (hl : l.length ≤ 1000) :
    Calls Tryz.prog 100 #[v] w fun r w' => ∃ v', r = .returned v' ∧ w'.ownsRow w.heap.size 9 1 v' l.length (strs l) ∧ Below w.heap.size w w' := by
  obtain ⟨_, h2⟩ := h
  rcases h2 with ⟨rfl, hz⟩ | ⟨g, o, cap, cur, rfl, hh, hc, hm, hs, ht⟩
  · obtain rfl : l = [] := List.length_eq_zero_iff.1 hz
    refine (Tryz.slices_Clone_string_nil 0 0 w).mono ?_
    rintro r y ⟨rfl, rfl⟩
    exact ⟨_, rfl, World.ownsRow_nil _ _ _ _, Below.refl _ _⟩
  · refine (Tryz.slices_Clone_string g o l.length cap l w (Nat.le_refl _) (by omega) (fun j hj => ?_)).mono ?_
    · have h0 : ((cur.toList.drop o).take (l.length * 1))[j]? = (strs l)[j]? := by rw [ht]
      rw [List.getElem?_take, if_pos (by omega), List.getElem?_drop] at h0
      rw [blk_cell hh, ← Array.getElem?_toList, h0]
      simp [strs, hj, List.getD_eq_getElem?_getD]
    · rintro r y ⟨v', rfl, hr, _, hb⟩
      exact ⟨v', rfl, by rw [List.take_of_length_le (Nat.le_refl _)] at hr; exact hr, hb⟩
set_option maxHeartbeats 1000000 in
theorem sinkLog_any {w : World} {p e : Nat} {logs : Nat → List ByteArray} {sh : Nat → List (Nat × Value)} {st : Mod.Stv} {c : Sv} (H : PkAt w p e logs sh st c) (hs : Sound st) (i : Int) :
    Calls Tryz.prog 60 #[ptrTo p, .int .i64 i] w fun r w' =>
      ∃ lv, r = .returned lv ∧ w'.ownsRow w.heap.size 9 1 lv (if 0 ≤ i ∧ i < 3 then logs i.toNat else []).length (strs (if 0 ≤ i ∧ i < 3 then logs i.toNat else [])) ∧ Below w.heap.size w w' := by
  have c0 : w.cell? ⟨p, 0, none⟩ = some (ptrTo c.s) := by rw [blk_cell H.ks.blk, H.ks.a0]
  have hID := storeIsDead_any H.stt
  rw [hs.1] at hID
  have HID := hide hID
  by_cases h : 0 ≤ i ∧ i < 3
  · rw [if_pos h]
    obtain ⟨n, rfl⟩ := Int.eq_ofNat_of_zero_le h.1
    obtain ⟨h0, h3⟩ := h
    have hn3 : n < 3 := by omega
    obtain ⟨ad, cap, hlv, clog⟩ := H.ks.logc hn3
    have hrow := H.ks.lgs n hn3
    rw [hlv] at hrow
    have HCL := hide (cloneStrs_any hrow (by have := H.ks.loglen hn3; omega))
    have hst : Wire.isStr (n : Int) = true := by simp [Wire.isStr]; omega
    have hIS := isStream_any (n : Int) w
    rw [hst] at hIS
    have HIS := hide hIS
    have hnn : ((n : Int)).toNat = n := by omega
    rw [hnn]
    obtain ⟨m, hm⟩ : ∃ m, m = (logs n).length := ⟨_, rfl⟩
    obtain ⟨xs, hxs⟩ : ∃ xs, xs = strs (logs n) := ⟨_, rfl⟩
    rw [← hm, ← hxs] at HCL ⊢
    rw [← hm] at clog
    clear H hID hrow hlv hIS hst hnn hm hxs
    unfold ptrTo at *
    go_enter Tryz.func60, Tryz.ntmps60
    go_wp2_with (first | (go_at_call 87; refine (unhide HIS).mono ?_; rintro r y ⟨rfl, hyw⟩; obtain rfl : w = y := hyw.symm) | (go_at_call 86; refine (unhide HID).mono ?_; rintro r y ⟨rfl, hyw⟩; obtain rfl : w = y := hyw.symm) | (go_at_call 100; refine (unhide HCL).mono ?_; rintro r y ⟨v', rfl, ho, hb⟩; replace ho := hide ho; replace hb := hide hb))
    go_ret
    exact ⟨v', rfl, unhide ho, unhide hb⟩
  · rw [if_neg h]
    have hst : Wire.isStr i = false := by
      cases hc : Wire.isStr i
      · rfl
      · simp [Wire.isStr] at hc; omega
    have hIS := isStream_any i w
    rw [hst] at hIS
    have HIS := hide hIS
    clear H hID hIS hst h
    unfold ptrTo at *
    go_enter Tryz.func60, Tryz.ntmps60
    go_wp2_with (go_at_call 87; refine (unhide HIS).mono ?_; rintro r y ⟨rfl, hyw⟩; obtain rfl : w = y := hyw.symm)
    go_ret
    exact ⟨_, rfl, World.ownsRow_nil _ _ _ _, Below.refl _ _⟩

theorem zRecs_get : ∀ (m j : Nat), j < m → (zRecs m)[j * 3]? = some (.int .i64 0) ∧ (zRecs m)[j * 3 + 1]? = some (.int .i64 0) ∧ (zRecs m)[j * 3 + 2]? = some (.string ⟨#[]⟩)
  | 0, j, h => by omega
  | m + 1, j, h => by
    have hl := length_zRecs m
    by_cases e : j < m
    · obtain ⟨h0, h1, h2⟩ := zRecs_get m j e
      refine ⟨?_, ?_, ?_⟩
      all_goals
        unfold zRecs
        rw [List.getElem?_append_left (by omega)]
        assumption
    · obtain rfl : j = m := by omega
      refine ⟨?_, ?_, ?_⟩
      all_goals
        unfold zRecs
        rw [List.getElem?_append_right (by omega), hl]
        simp
set_option maxHeartbeats 1000000 in
theorem load_zero {w : World} {p g cap m : Nat} (hrow : w.ownsRow 0 155 3 (.slice (some ⟨g, 0, none⟩) m cap) m (zRecs m)) (hm : m ≤ 150) :
    Calls Tryz.prog 108 #[ptrTo p, .slice (some ⟨g, 0, none⟩) m cap] w fun r w' => r = .returned (.bool true) ∧ Below w.heap.size w w' := by
  have hc : ∀ j, j < m → w.cell? ⟨g, j * 3, none⟩ = some (.int .i64 0) ∧ w.cell? ⟨g, j * 3 + 1, none⟩ = some (.int .i64 0) ∧ w.cell? ⟨g, j * 3 + 2, none⟩ = some (.string ⟨#[]⟩) := by
    intro j hj
    obtain ⟨ad, cap', e, _, _, hcl⟩ := (RowO.of_own hrow).shape
    obtain ⟨g', o', e2, hcl⟩ := hcl (by omega)
    rw [e2] at e
    injection e with e
    injection e with e
    injection e with e e'
    subst e e'
    have := zRecs_get m j hj
    refine ⟨?_, ?_, ?_⟩
    · have h := hcl (j * 3) (by omega); rw [Nat.zero_add] at h; rw [h]; exact this.1
    · have h := hcl (j * 3 + 1) (by omega); rw [Nat.zero_add] at h; rw [h]; exact this.2.1
    · have h := hcl (j * 3 + 2) (by omega); rw [Nat.zero_add] at h; rw [h]; exact this.2.2
  have HC := hide hc
  have hcmp : ∀ z : World, (binOp .eql 155 (.agg #[.int .i64 0, .int .i64 0, .string ⟨#[]⟩]) (.agg #[.int .i64 0, .int .i64 0, .string ⟨#[]⟩])).run Tryz.prog z = .ok (.bool true) z := fun z => by kernel_rfl
  clear hrow hc
  unfold ptrTo
  go_enter Tryz.func108, Tryz.ntmps108
  go_wp2
  go_loopw [5, 6, 10] (fun _ _ i wr => ∃ j : Nat, j ≤ m ∧ i = .int .i64 j ∧ Below w.heap.size w wr) (fun _ _ i _ => m - (intOf i).toNat)
  case atStart => exact ⟨0, by omega, rfl, Below.refl _ _⟩
  case round =>
    obtain ⟨j, hj, rfl, hb⟩ := hrel
    by_cases hlt : j < m
    · obtain ⟨e0, e1, e2⟩ := (unhide HC) j hlt
      have hgl : g < w.heap.size := World.block_lt_of_cell? _ _ e0
      have y0 := (hb.cell (p := ⟨g, j * 3, none⟩) hgl).trans e0
      have y1 := (hb.cell (p := ⟨g, j * 3 + 1, none⟩) hgl).trans e1
      have y2 := (hb.cell (p := ⟨g, j * 3 + 2, none⟩) hgl).trans e2
      have HB := hide hb
      clear hb e0 e1 e2
      go_wp2
      exact ⟨⟨j + 1, by omega, by go_num, (unhide HB).alloc (unhide HB).size _⟩, by simp [intOf]; omega⟩
    · obtain rfl : j = m := by omega
      go_wp2
      go_ret
      exact ⟨rfl, hb⟩
end Go.Proofs.YtamafdcnbcoegaaGreat
namespace Go.Proofs.YtamafdcnbcoegaaGreat
open Go.RowKit

/-- A new sink's cells. -/
def newArr (s : Nat) (rv : Value) : Array Value := #[ptrTo s, .int .i64 0, .slice none 0 0, .slice none 0 0, .map none, .slice none 0 0, .slice none 0 0, .map none, .slice none 0 0, .slice none 0 0, .map none, rv]
theorem pkAt_new {w : World} {p s dp : Nat} {dlv duv rv : Value} {st : Mod.Stv} (hb : w.heap[p]? = some (.cells (newArr s rv) 176 (0, 0))) (hs : StAt w s dp st dlv duv) (hl : st.dk.bytes.length = 7808) (hr : RowO w 179 2 rv 2 (rulesOf p)) :
    PkAt w p 0 (fun _ => []) (fun _ => []) st ⟨newArr s rv, s, dp, fun _ => .slice none 0 0, fun _ => .slice none 0 0, fun _ => .map none, rv, dlv, duv⟩ := by
  have h3 : ∀ i, i < 3 → (newArr s rv)[2 + i * 3]? = some (.slice none 0 0) ∧ (newArr s rv)[2 + i * 3 + 1]? = some (.slice none 0 0) ∧ (newArr s rv)[2 + i * 3 + 2]? = some (.map none) := by
    intro i hi
    obtain rfl | rfl | rfl : i = 0 ∨ i = 1 ∨ i = 2 := by omega
    all_goals exact ⟨rfl, rfl, rfl⟩
  refine ⟨⟨hb, rfl, rfl, rfl, fun i hi => (h3 i hi).1, fun i hi => (h3 i hi).2.1, fun i hi => (h3 i hi).2.2, rfl, fun i hi => rowO_nil _ _ _, fun i hi => shelfIs_nil _, (fun i hi x hx => by cases hx), (fun i j _ _ _ g hg => by cases hg), fun i j _ _ _ k hk => ?_, by simp, by omega⟩, hs, hr, hl⟩
  rcases hk with h | h <;> cases h

set_option maxRecDepth 100000 in
set_option maxHeartbeats 4000000 in
theorem sinkOpen_zero (w : World) (v : Value) (m : Nat) (hm : m = 122) (hat : BytesAt w v (List.replicate (m * 64) 0)) :
    Calls Tryz.prog 65 #[v] w fun r w' => ∃ p st c, r = .returned (.tuple #[ptrTo p, .int .i64 0]) ∧ PkAt w' p 0 (fun _ => []) (fun _ => []) st c ∧ Sound st ∧ Below w.heap.size w w' ∧ ∀ k, PkU p c k → w.heap.size ≤ k := by
  have hSO := hide (storeOpen_zero w v m hat (by omega) (by omega))
  obtain ⟨ad, cap, rfl, hl1, hl2, _⟩ := hat
  rw [List.length_replicate] at hl1 hl2 hSO ⊢
  obtain ⟨st, hst⟩ : ∃ st, st = ((⟨1, 0, 0, ⟨List.replicate (m * 64) 0, 0, false⟩⟩ : Mod.Stv).putNumbers 0 0 0).2 := ⟨_, rfl⟩
  rw [← hst] at hSO
  have hsound : Sound st := by rw [hst]; exact (sound_num (st := ⟨1, 0, 0, ⟨List.replicate (m * 64) 0, 0, false⟩⟩) ⟨rfl, rfl⟩ 0 0 0).2
  have hlen : st.dk.bytes.length = 7808 := by
    rw [hst]
    unfold Mod.Stv.putNumbers Mod.Dk.put
    simp only
    rw [if_neg (by simp), if_neg (by simp)]
    simp only
    rw [Mod.length_setSec (Mod.length_sealB _ _ (by rw [Mod.length_headIn]; omega)) (by simp; omega)]
    simp; omega
  have hm64 : m * 64 = 7808 := by omega
  have hm2 : m - 2 = 120 := by omega
  rw [hm64, hm2] at hSO
  rw [hm64]
  have HS := hide (And.intro hsound hlen)
  have hNO := fun y => hide (numbersOf_any 0 y)
  have hcmp : ∀ z : World, (binOp .neq 136 (.agg #[.int .i64 0, .int .i64 0, .int .i64 0]) (.agg #[.int .i64 0, .int .i64 0, .int .i64 0])).run Tryz.prog z = .ok (.bool false) z := fun z => by kernel_rfl
  clear hst hsound hlen hm64 hm2 hl1 hl2 hm
  unfold ptrTo at *
  go_enter Tryz.func65, Tryz.ntmps65
  go_upto_region 7 with (go_at_call 102; refine (unhide hSO).mono ?_; rintro r y ⟨s, dp, lv, uv, rv, rfl, hST, hSU, hrow, hb⟩; obtain ⟨ra, rc, rfl, _, _, hra⟩ := (RowO.of_own (ownsRow_monoB hrow (Nat.zero_le _))).shape)
  obtain ⟨gr, og, rfl, _⟩ := hra (by omega)
  have hog : og = 0 := by
    rcases hrow with ⟨_, ⟨h, _⟩ | ⟨g', cap', cur', h, _⟩⟩
    · cases h
    · injection h with h; injection h with h; injection h
  subst hog
  clear hra
  obtain ⟨g5, hg5⟩ : ∃ g5, g5 = y.heap.size := ⟨_, rfl⟩
  have HG5 := hide hg5
  rw [← hg5]
  have hgw : w.heap.size ≤ g5 := by have := hb.size; omega
  clear hg5
  refine wp_world (fun x => x.heap[g5]? = some (.cells #[.int .i64 0, .int .i64 0, .int .i64 0, .slice (some ⟨gr, 0, none⟩) 120 rc] 187 (0, 0)) ∧ x.heap[g5 + 1]? = some (.cells (newArr s (.slice none 0 0)) 176 (0, 0)) ∧ Below g5 y x) ?_ ?_
  · rw [unhide HG5]
    exact alloc2 _ _ _
  rintro x ⟨h5, h6, hbx⟩
  have y0 := blk_cell (i := 0) h5
  have y1 := blk_cell (i := 1) h5
  have y2 := blk_cell (i := 2) h5
  have y3 := blk_cell (i := 3) h5
  have z1 := blk_cell (i := 1) h6
  simp [newArr] at y0 y1 y2 y3 z1
  have hxx := lt_of_block h6
  have hrx := ownsRow_keepB (ownsRow_monoB hrow (Nat.zero_le _)) (fun g hg => by have := (World.ownsRow.lt hrow g hg).2; exact hbx.block g (by rw [unhide HG5]; exact this))
  have hLD := fun z (hz : Below x.heap.size x z) => hide (load_zero (p := g5 + 1) (ownsRow_keepB hrx (fun g hg => hz.block g (World.ownsRow.lt hrx g hg).2)) (by omega))
  have hSTx := hide (hST.far (far_below (E := fun _ => False) (by rw [← unhide HG5]; exact hbx)) (fun _ _ h => h))
  have HSU := hide hSU
  have HB := hide (hb.trans (hbx.mono hgw))
  have H5 := hide h5
  have H6 := hide h6
  clear hST hSU hrow hrx hb hbx h5 h6 HG5
  unfold ptrTo at *
  refine wp_region_frame (by kernel_rfl)
    [fun v _ => v = .pointer (some ⟨g5, 0, none⟩), fun v _ => v = .agg #[.int .i64 0, .int .i64 0, .int .i64 0], fun v _ => v = .pointer (some ⟨g5 + 1, 0, none⟩), fun v _ => v = .pointer (some ⟨g5 + 1, 0, none⟩), fun v _ => v = .pointer (some ⟨g5 + 1, 1, none⟩), fun v _ => v = .int .i64 0, fun v _ => v = .agg #[.int .i64 0, .int .i64 0, .int .i64 0], fun v _ => v = .bool false, fun v _ => v = .bool false,
     fun v _ => v = .pointer (some ⟨g5 + 1, 0, none⟩), fun v _ => v = .pointer (some ⟨g5, 3, none⟩), fun v _ => v = .slice (some ⟨gr, 0, none⟩) 120 rc, fun v _ => v = .bool true, fun v _ => v = .bool false, fun v _ => v = .bool false]
    [[(5, none)], [(26, some 0)], [(7, none)], [(28, some 2)], [(29, some 3)], [(30, some 4)], [(31, some 5)], [(27, some 1), (32, some 6)], [(33, some 7)], [(7, none), (34, some 8)], [(5, none), (34, some 8)], [(36, some 10), (34, some 8)], [(35, some 9), (37, some 11), (34, some 8)], [(38, some 12), (34, some 8)], [(34, some 8), (39, some 13)]] [some 26, some 27, some 28, some 29, some 30, some 31, some 32, some 33, some 34, some 35, some 36, some 37, some 38, some 39, some 40] [false, false, false, false, false, false, false, false, false, false, false, false, false, false, false, false, false, false, false, false, false, false, false, false, false, false, true, true, true, true, true, true, true, true, true, true, true, true, true, true, true, false, false, false, false, false, false, false, false, false, false, false]
    (by kernel_rfl) (by kernel_rfl) (by kernel_rfl) (by kernel_rfl) ?_ ?_ ?_
  · repeat' (first | exact stable_eq _ | exact trivial | apply And.intro)
  · refine ⟨?_, ?_, ?_, ?_, ?_, ?_, ?_, ?_, ?_, ?_, ?_, ?_, ?_, ?_, ?_, trivial⟩
    all_goals
      intro a' z hbz hf
      have d0 := (hbz.cell (p := ⟨g5, 0, none⟩) (by show g5 < _; omega)).trans y0
      have d1 := (hbz.cell (p := ⟨g5, 1, none⟩) (by show g5 < _; omega)).trans y1
      have d2 := (hbz.cell (p := ⟨g5, 2, none⟩) (by show g5 < _; omega)).trans y2
      have d3 := (hbz.cell (p := ⟨g5, 3, none⟩) (by show g5 < _; omega)).trans y3
      have e1 := (hbz.cell (p := ⟨g5 + 1, 1, none⟩) hxx).trans z1
      have HZ := hide (unhide (hLD z hbz))
      clear hbz hLD
      simp only [PlanFacts, List.getD_cons_zero, List.getD_cons_succ, Array.getD_eq_getD_getElem?] at hf
      try simp at hf
      try (have hg : a'.tmps[34]? = some (.bool false) := tmpB (by first | exact hf | exact hf.1 | exact hf.2 | exact hf.2.2))
      try go_simp
      try simp only [hg, if_true]
      try go_simp
      try exact Below.refl _ _
    all_goals first
      | exact ⟨rfl, Below.refl _ _⟩
      | exact ⟨_, rfl, Below.refl _ _, rfl⟩
      | (refine (unhide HZ).mono ?_; rintro e x' ⟨rfl, hb⟩; exact ⟨rfl, hb⟩)
      | (refine (unhide HZ).mono ?_; rintro e x' ⟨rfl, hb⟩; exact ⟨_, rfl, hb, rfl⟩)
      | (refine (unhide (hNO _)).mono ?_; rintro e x' ⟨rfl, hb⟩; exact ⟨rfl, hb⟩)
      | (refine (unhide (hNO _)).mono ?_; rintro e x' ⟨rfl, hb⟩; exact ⟨_, rfl, hb, rfl⟩)
      | skip
  · intro f z hbz hwd
    simp only [AllWords] at hwd
    have h14 := hwd.2.2.2.2.2.2.2.2.2.2.2.2.2.2.1
    clear hwd
    simp only [mergeT, h14]
    generalize f 26 = x26
    generalize f 27 = x27
    generalize f 28 = x28
    generalize f 29 = x29
    generalize f 30 = x30
    generalize f 31 = x31
    generalize f 32 = x32
    generalize f 33 = x33
    generalize f 34 = x34
    generalize f 35 = x35
    generalize f 36 = x36
    generalize f 37 = x37
    generalize f 38 = x38
    generalize f 39 = x39
    have hp6 := (hbz.block _ hxx).trans (unhide H6)
    have q11 : z.cell? ⟨g5 + 1, 11, none⟩ = some (.slice none 0 0) := by rw [blk_cell hp6]; rfl
    have qf : z.frozen? ⟨g5 + 1, 11, none⟩ = false := blk_free (i := 11) hp6
    have hzx := hbz.size
    have HBZ := hide hbz
    have HP6 := hide hp6
    have hpz : g5 + 1 < z.heap.size := by omega
    have hca : ∀ o, (z.alloc o).cell? ⟨g5 + 1, 11, none⟩ = some (.slice none 0 0) := fun o => (World.cell?_alloc_lt z _ ⟨g5 + 1, 11, none⟩ hpz).trans q11
    have hfa : ∀ o, (z.alloc o).frozen? ⟨g5 + 1, 11, none⟩ = false := fun o => blk_free (i := 11) ((heap_alloc_old _ _ hpz).trans hp6)
    have hzg : ¬ g5 + 1 = z.heap.size := by omega
    clear hbz hp6 q11 qf
    go_wp2
    go_ret2
    have hp6 := unhide HP6
    have hbz := unhide HBZ
    have hsx := unhide hSTx
    have hnS : ¬ StU s dp lv uv (g5 + 1) := by
      rintro (h | h)
      · have h1 := hsx.blk
        rw [← h, unhide H6] at h1
        injection h1 with h1
        injection h1 with _ h1 _
        exact absurd h1 (by decide)
      · exact dk_ne hsx.dk (unhide H6) (by decide) (by decide) (by decide) h
    obtain ⟨R, hR⟩ : ∃ R, R = Obj.cells (rulesOf (g5 + 1)).toArray 179 (0, 0) := ⟨_, rfl⟩
    obtain ⟨z2, hz2⟩ : ∃ z2, z2 = z.setCell ⟨g5 + 1, 11, none⟩ (.slice (some ⟨z.heap.size, 0, none⟩) 2 2) := ⟨_, rfl⟩
    have hsz2 : z2.heap.size = z.heap.size := by rw [hz2, World.size_setCell]
    have hset : Far (fun k => k = g5 + 1) z z2 := by rw [hz2]; exact far_set _ _ _ _
    have hba : Below z2.heap.size z2 (z2.alloc R) := (Below.refl _ _).alloc (Nat.le_refl _) _
    have hS2 : StAt (z2.alloc R) s dp st lv uv :=
      ((hsx.far (far_below (E := fun _ => False) hbz) (fun _ _ h => h)).far hset (fun k hk e => hnS (by rw [← e]; exact hk))).far (far_below (E := fun _ => False) hba) (fun _ _ h => h)
    have hb2 : (z2.alloc R).heap[g5 + 1]? = some (.cells (newArr s (.slice (some ⟨z.heap.size, 0, none⟩) 2 2)) 176 (0, 0)) := by
      rw [hba.block _ (by omega), hz2]
      have := blk_set (j := 11) (v := .slice (some ⟨z.heap.size, 0, none⟩) 2 2) hp6
      simpa [newArr] using this
    have hr2 : RowO (z2.alloc R) 179 2 (.slice (some ⟨z.heap.size, 0, none⟩) 2 2) 2 (rulesOf (g5 + 1)) := by
      refine ⟨by simp [rulesOf], .inr ⟨z.heap.size, 0, 2, (rulesOf (g5 + 1)).toArray, rfl, ?_, by omega, by unfold maxLen; omega, by simp [rulesOf], by simp [rulesOf]⟩⟩
      rw [← hsz2, heap_alloc_new, hR]
    have hPK := pkAt_new hb2 hS2 (unhide HS).2 hr2
    have hR2 : R = Obj.cells #[.int .i64 1, .func (.func 109) #[.pointer (some ⟨g5 + 1, 0, none⟩)] #[], .int .i64 3, .func (.func 110) #[.pointer (some ⟨g5 + 1, 0, none⟩)] #[]] 179 (0, 0) := by rw [hR]; rfl
    subst hR2
    subst hz2
    refine ⟨g5 + 1, st, _, rfl, hPK, (unhide HS).1, ?_, ?_⟩
    · exact (((unhide HB).trans (hbz.mono (unhide HB).size)).setCell (p := ⟨g5 + 1, 11, none⟩) (by show w.heap.size ≤ g5 + 1; omega) _).alloc (by rw [World.size_setCell]; have := (unhide HB).size; omega) _
    · rintro k ((h | ⟨i, hi, h⟩ | ⟨i, hi, h⟩) | h | h)
      · omega
      · cases h
      · rcases h with h | h <;> cases h
      · exact (unhide HSU) k h
      · have h2 : some z.heap.size = some k := h
        injection h2 with h2
        have := (unhide HB).size
        omega
end Go.Proofs.YtamafdcnbcoegaaGreat
namespace Go.Proofs.YtamafdcnbcoegaaGreat
open Go.RowKit

/-- The program's sink in memory, behind the courier's own door. -/
def CsAt (w : World) (v : Nat) (a : Mod.Sk) (U : Nat → Prop) : Prop :=
  ∃ p sh st c, w.heap[v]? = some (.cells #[ptrTo p] 93 (0, 0)) ∧ PkAt w p a.epoch a.logs sh st c ∧ Sound st ∧ OnSh a.held sh ∧ SkMore a ∧ U = fun k => k = v ∨ PkU p c k
theorem csAt_lt {w : World} {v : Nat} {a : Mod.Sk} {U : Nat → Prop} (h : CsAt w v a U) : ∀ k, U k → k < w.heap.size := by
  obtain ⟨p, sh, st, c, hb, H, _, _, _, rfl⟩ := h
  rintro k (rfl | hk)
  · exact lt_of_block hb
  · exact H.lt k hk
theorem csAt_far {w w' : World} {v : Nat} {a : Mod.Sk} {U E : Nat → Prop} (h : CsAt w v a U) (hf : Far E w w') (hE : ∀ k, U k → ¬ E k) : CsAt w' v a U := by
  obtain ⟨p, sh, st, c, hb, H, h1, h2, h3, rfl⟩ := h
  exact ⟨p, sh, st, c, hf.blk hb (hE v (.inl rfl)), H.far hf (fun k hk => hE k (.inr hk)), h1, h2, h3, rfl⟩
theorem FramesOut.up {B B' : Nat} {z : World} {lv : Value} {fs : List Value} {Fl : List ByteArray} {U : Nat → Prop} (h : FramesOut B z lv fs Fl (fun _ => False)) (hB : B' ≤ B) (hU : ∀ k, U k → k < B) : FramesOut B' z lv fs Fl U := by
  refine ⟨h.len, ownsRow_monoB h.row hB, fun j v hj => ownsRow_monoB (h.each j v hj) hB, h.apart, fun k hk hu => ?_⟩
  have := hU k hu
  rcases hk with hk | hk
  · have := (World.ownsRow.lt h.row k hk).1
    omega
  · obtain ⟨j, hj, u, hu2, hk⟩ := hk
    have := (World.ownsRow.lt (h.each j u hu2) k hk).1
    omega
theorem cs_not {w : World} {p e : Nat} {logs : Nat → List ByteArray} {sh : Nat → List (Nat × Value)} {st : Mod.Stv} {c : Sv} (H : PkAt w p e logs sh st c) {v q : Nat} (hb : w.heap[v]? = some (.cells #[ptrTo q] 93 (0, 0))) : ¬ PkU p c v :=
  pk_not_cells H hb (by decide) (by decide) (by decide) (by decide) (by decide) (by decide) (by decide) (by decide)
set_option maxHeartbeats 1000000 in
theorem csDeliver_any {w : World} {v : Nat} {a : Mod.Sk} {U : Nat → Prop} (bs : Value) (l : List UInt8) (h : CsAt w v a U) (G : SkGood a) (hat : BytesAt w bs l) :
    Calls Tryz.prog 27 #[ptrTo v, bs] w fun r w' =>
      ∃ lv fs U', r = .returned (.tuple #[lv, .int .i64 (skSays a l).1]) ∧ FramesOut w.heap.size w' lv fs (skSays a l).2.2 U' ∧ CsAt w' v (skSays a l).2.1 U' ∧ Far U w w' ∧ ∀ k, U' k → U k ∨ w.heap.size ≤ k := by
  obtain ⟨p, sh, st, c, hb, H, hs, O, M, rfl⟩ := h
  have c0 : w.cell? ⟨v, 0, none⟩ = some (ptrTo p) := blk_cell (i := 0) hb
  have HD := hide (sinkDeliver_any H hs G M O bs l hat)
  have hM := skMore_says M l
  obtain ⟨a2, ha2⟩ : ∃ a2, a2 = (skSays a l).2.1 := ⟨_, rfl⟩
  obtain ⟨er, her⟩ : ∃ er, er = (skSays a l).1 := ⟨_, rfl⟩
  obtain ⟨Fl, hFl⟩ : ∃ Fl, Fl = (skSays a l).2.2 := ⟨_, rfl⟩
  rw [← ha2, ← her, ← hFl] at HD ⊢
  rw [← ha2] at hM
  have hnv := cs_not H hb
  have HH := hide (And.intro hb hM)
  clear H hb hM ha2 her hFl hat
  unfold ptrTo at c0 HD
  show Calls Tryz.prog _ #[.pointer (some ⟨v, 0, none⟩), bs] w _
  go_enter Tryz.func27, Tryz.ntmps27
  go_wp2_with (go_at_call 56; refine (unhide HD).mono ?_; rintro r y ⟨lv, fs, x, rfl, k1, k2, k3⟩; replace k1 := hide k1; replace k2 := hide k2; replace k3 := hide k3)
  go_ret2
  obtain ⟨sh2, st2, ⟨c2, K, F, N, t1, t2⟩, hs2, O2⟩ := unhide k1
  obtain ⟨hb, hM⟩ := unhide HH
  have hbx := F.blk hb hnv
  have hB := unhide k2
  refine ⟨lv, fs, fun k => k = v ∨ PkU p c2 k, rfl, (unhide k3).up F.size ?_, ⟨p, sh2, st2, c2, (hB.block _ (lt_of_block hbx)).trans hbx, K.far (far_below (E := fun _ => False) hB) (fun _ _ h => h), hs2, O2, hM, rfl⟩, ?_, ?_⟩
  · rintro k (rfl | hk)
    · exact lt_of_block hbx
    · exact K.lt k hk
  · exact (F.mono (fun k _ h => .inr h)).trans (far_below (E := fun _ => False) hB) (fun _ _ h => h.elim)
  · rintro k (rfl | hk)
    · exact .inl (.inl rfl)
    · exact (N k hk).imp .inr id
theorem csEpoch_any {w : World} {v : Nat} {a : Mod.Sk} {U : Nat → Prop} (h : CsAt w v a U) :
    Calls Tryz.prog 42 #[ptrTo v] w fun r w' => r = .returned (.int .i64 a.epoch) ∧ Below w.heap.size w w' := by
  obtain ⟨p, sh, st, c, hb, H, hs, O, M, rfl⟩ := h
  have c0 : w.cell? ⟨v, 0, none⟩ = some (ptrTo p) := blk_cell (i := 0) hb
  have HD := hide (sinkEpoch_any H)
  clear H hb
  unfold ptrTo at *
  go_enter Tryz.func42, Tryz.ntmps42
  go_wp2_with (go_at_call 67; refine (unhide HD).mono ?_; rintro r y ⟨rfl, rfl⟩)
  go_ret
  exact ⟨rfl, Below.refl _ _⟩
theorem csLog_any {w : World} {v : Nat} {a : Mod.Sk} {U : Nat → Prop} (i : Int) (h : CsAt w v a U) :
    Calls Tryz.prog 32 #[ptrTo v, .int .i64 i] w fun r w' =>
      ∃ lv, r = .returned lv ∧ w'.ownsRow w.heap.size 9 1 lv (if 0 ≤ i ∧ i < 3 then a.logs i.toNat else []).length (strs (if 0 ≤ i ∧ i < 3 then a.logs i.toNat else [])) ∧ Below w.heap.size w w' := by
  obtain ⟨p, sh, st, c, hb, H, hs, O, M, rfl⟩ := h
  have c0 : w.cell? ⟨v, 0, none⟩ = some (ptrTo p) := blk_cell (i := 0) hb
  have HD := hide (sinkLog_any H hs i)
  obtain ⟨xs, hxs⟩ : ∃ xs, xs = if 0 ≤ i ∧ i < 3 then a.logs i.toNat else [] := ⟨_, rfl⟩
  rw [← hxs] at HD ⊢
  clear H hb hxs
  unfold ptrTo at *
  go_enter Tryz.func32, Tryz.ntmps32
  go_wp2_with (go_at_call 60; refine (unhide HD).mono ?_; rintro r y ⟨lv, rfl, k1, k2⟩; replace k1 := hide k1; replace k2 := hide k2)
  go_ret
  exact ⟨lv, rfl, unhide k1, unhide k2⟩
theorem csOpen_zero {w : World} (bs : Value) (hat : BytesAt w bs (List.replicate 7808 0)) :
    Calls Tryz.prog 38 #[bs] w fun r w' =>
      ∃ v U, r = .returned (.tuple #[ptrTo v, .int .i64 0]) ∧ CsAt w' v { epoch := 0, logs := fun _ => [], held := [] } U ∧ Below w.heap.size w w' ∧ ∀ k, U k → w.heap.size ≤ k := by
  obtain ⟨m, hm⟩ : ∃ m, m = 122 := ⟨_, rfl⟩
  have hm64 : 7808 = m * 64 := by omega
  rw [hm64] at hat
  have HD := hide (sinkOpen_zero w bs m hm hat)
  clear hat hm64 hm
  unfold ptrTo at *
  go_enter Tryz.func38, Tryz.ntmps38
  go_wp2_with (go_at_call 65; refine (unhide HD).mono ?_; rintro r y ⟨p, st, c, rfl, K, hs, hb, hU⟩; replace K := hide K; replace hb := hide hb; replace hU := hide hU)
  go_ret2
  have hb := unhide hb
  refine ⟨y.heap.size, _, rfl, ⟨p, _, st, c, heap_alloc_new _ _, (unhide K).far (far_below (E := fun _ => False) ((Below.refl _ _).alloc (Nat.le_refl _) _)) (fun _ _ h => h), hs, onSh_nil, skMore_new, rfl⟩, hb.alloc hb.size _, ?_⟩
  rintro k (rfl | hk)
  · exact hb.size
  · exact (unhide hU) k hk
/-- The program's sink. -/
def theSink : SinkC where
  At := CsAt
  lt := csAt_lt
  far := csAt_far
  deliver := csDeliver_any
  epoch := csEpoch_any
  log := fun i h _ => csLog_any i h
  opened := csOpen_zero
end Go.Proofs.YtamafdcnbcoegaaGreat
