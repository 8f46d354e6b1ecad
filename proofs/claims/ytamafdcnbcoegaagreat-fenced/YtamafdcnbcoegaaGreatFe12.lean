/-
  Part 12 of a proof: K26, K28, K29, K19, L7, L8, L9, L10, L11, L12, L13, L14, L15, L16, L17, L18, T3.
-/
import Derived.Maps.AppendAt
import Derived.Test.YtamafdcnbcoegaaGreatFe11
namespace Go.Proofs.YtamafdcnbcoegaaGreat
open Go.RowKit
section
variable {op ct n : Nat} {w : World} {p : Nat} {a : Mod.Sk} {sh : Nat → List (Nat × Value)} {st : Mod.Stv} {c : Sv}
theorem take_ok (H : PkAt w p a.epoch a.logs sh st c) (hs : Alv op ct n st a.epoch a.logs) (hct : ct + 1000 < 18446744073709551616) (G : SkGood a) (M : SkMore a) (O : OnSh a.held sh) (e : Int) (i q : Nat) (hi : i < 3) (hq : q ≤ 2147483647) (b : ByteArray) (hb : b.size ≤ 20) (hn : n = 0 ∨ (a.commits 3 a.epoch i q b).length < n) :
  Calls Tryz.prog 163 #[ptrTo p, .agg #[.int .i64 3, .int .i64 e, .int .i64 i, .int .i64 q, .string b]] w fun r w' => r = .returned (.int .i64 0) ∧ SkIs2 op (ct + (a.commits 3 a.epoch i q b).length) (n - (a.commits 3 a.epoch i q b).length) w w' p (skAfter a 3 a.epoch i q b) c := by
 refine (take_gen H hs hct G M O e i q hi hq b hb).mono ?_
 rintro r w' ⟨v, rfl, ⟨rfl, _, h⟩ | ⟨_, h1, h2, _⟩⟩
 ·exact ⟨rfl, h⟩
 ·omega
theorem begin_ok (H : PkAt w p a.epoch a.logs sh st c) (hs : Alv op ct n st a.epoch a.logs) (hct : ct + 1000 < 18446744073709551616) (O : OnSh a.held sh) (e : Nat) (he : a.epoch ≤ e) (hem : e ≤ 2147483647) (hn : n = 0 ∨ hiW a e < n) :
  Calls Tryz.prog 160 #[ptrTo p, .int .i64 e] w fun r w' => r = .returned (.int .i64 0) ∧ SkIs2 op (ct + hiW a e) (n - hiW a e) w w' p (helloIt a e) c := by
 refine (begin_gen H hs hct O e he hem).mono ?_
 rintro r w' ⟨v, rfl, ⟨rfl, _, h⟩ | ⟨_, h1, h2, _⟩⟩
 ·exact ⟨rfl, h⟩
 ·omega
end
set_option maxRecDepth 100000 in
set_option maxHeartbeats 4000000 in
theorem answerData_ok {op ct n : Nat} {w : World} {p : Nat} {a : Mod.Sk} {sh : Nat → List (Nat × Value)} {st : Mod.Stv} {c : Sv} (H : PkAt w p a.epoch a.logs sh st c) (hs : Alv op ct n st a.epoch a.logs) (hct : ct + 1000 < 18446744073709551616) (G : SkGood a) (M : SkMore a) (O : OnSh a.held sh) (i q : Nat) (hi : i < 3) (hq : q ≤ 2147483647) (b : ByteArray) (hb : b.size ≤ 20) (hnw : n = 0 ∨ (a.commits 3 a.epoch i q b).length < n) :
  Calls Tryz.prog 110 #[ptrTo p, .agg #[.int .i64 3, .int .i64 a.epoch, .int .i64 i, .int .i64 q, .string b]] w fun r z =>
   r = .returned (.tuple #[.agg #[.int .i64 4, .int .i64 a.epoch, .int .i64 i, .int .i64 ((skAfter a 3 a.epoch i q b).logs i).length, .string (ackBody (skAfter a 3 a.epoch i q b) i ((skAfter a 3 a.epoch i q b).logs i).length)], .int .i64 0]) ∧ SkIs2 op (ct + (a.commits 3 a.epoch i q b).length) (n - (a.commits 3 a.epoch i q b).length) w z p (skAfter a 3 a.epoch i q b) c := by
 obtain ⟨nn, hnn⟩ : ∃ nn, nn = n - (a.commits 3 a.epoch i q b).length := ⟨_, rfl⟩
 obtain ⟨cc, hcc⟩ : ∃ cc, cc = ct + (a.commits 3 a.epoch i q b).length := ⟨_, rfl⟩
 have c1 : w.cell? ⟨p, 1, none⟩ = some (.int .i64 a.epoch) := by rw [blk_cell H.ks.blk, H.ks.a1]
 have hpl := lt_of_block H.ks.blk
 have hTK := fun y (hy : Below w.heap.size w y) => hide (take_ok (H.far (far_below (E := fun _ => False) hy) (fun _ _ h => h)) hs hct G M O a.epoch i q hi hq b hb hnw)
 rw [← hnn, ← hcc] at hTK ⊢
 clear hnn hcc hnw
 have hep2 : (skAfter a 3 a.epoch i q b).epoch = a.epoch := by
  unfold skAfter
  split
  ·exact holdIt_epoch _ _ _ _
  ·rfl
 obtain ⟨a2, ha2⟩ : ∃ a2, a2 = skAfter a 3 a.epoch i q b := ⟨_, rfl⟩
 rw [← ha2] at hTK hep2 ⊢
 obtain ⟨ep, hep⟩ : ∃ ep, ep = a.epoch := ⟨_, rfl⟩
 rw [← hep] at c1 hTK hep2 ⊢
 have hneb : ((ep : Int) != (ep : Int)) = false := by simp
 have hUl := hide H.lt
 have DD := hide (rsAt_new w #[.int .i64 3, .int .i64 ep, .int .i64 i, .int .i64 q, .string b] zFr)
 have hi0 : (0 : Int) ≤ (i : Int) := by omega
 have hi3 : (i : Int) < 3 := by omega
 have HEP := hide hep2
 clear hs hct
 clear n
 obtain ⟨n, hn⟩ : ∃ n, n = (a2.logs i).length := ⟨_, rfl⟩
 rw [← hn]
 obtain ⟨bd, hbd⟩ : ∃ bd, bd = ackBody a2 i n := ⟨_, rfl⟩
 rw [← hbd]
 have HNB := hide (And.intro hn hbd)
 clear H hep ha2 hep2 hn hbd
 unfold ptrTo at *
 go_enter Tryz.func110, Tryz.ntmps110
 go_upto_region 1 with fail
 refine wp_world (RsAt w #[.int .i64 3, .int .i64 ep, .int .i64 i, .int .i64 q, .string b] zFr) (unhide DD) ?_
 clear DD
 intro x X
 have y1 := blk_cell (i := 1) X.box
 simp at y1
 have z1 := (X.bel.cell (p := ⟨p, 1, none⟩) hpl).trans c1
 have HX := hide X
 clear X
 go_quiet (fail)
 go_upto_region 3 with fail
 refine wp_world (RsAt w #[.int .i64 3, .int .i64 ep, .int .i64 i, .int .i64 q, .string b] zFr) ((unhide HX).drewN _) ?_
 clear HX y1 z1
 intro x2 X
 have y0 := blk_cell (i := 0) X.box
 have y1 := blk_cell (i := 1) X.box
 have y2 := blk_cell (i := 2) X.box
 have y3 := blk_cell (i := 3) X.box
 have y4 := blk_cell (i := 4) X.box
 simp at y0 y1 y2 y3 y4
 have hT := hide (unhide (hTK x2 X.bel))
 have HX := hide X
 clear X hTK
 go_upto_region 6 with (go_at_call 163; refine (unhide hT).mono ?_; rintro r y ⟨rfl, hk⟩)
 obtain ⟨sh2, st2, ⟨c2, K2, F2, N2, t1, t2⟩, hs2, O2⟩ := hk
 have hnE : ∀ k, w.heap.size ≤ k → ¬ PkU p c k := fun k hk h => by have := (unhide hUl) k h; omega
 have hgx := (unhide HX).lt
 refine wp_world (fun z => PkAt z p a2.epoch a2.logs sh2 st2 c2 ∧ Far (PkU p c) x2 z ∧ z.heap[w.heap.size]? = some (.cells #[.int .i64 3, .int .i64 ep, .int .i64 i, .int .i64 q, .string b] 41 (0, 0)) ∧ z.heap[w.heap.size + 1]? = some (.cells zFr 41 (0, 0))) ⟨K2, F2, F2.blk (unhide HX).box (hnE _ (Nat.le_refl _)), F2.blk (unhide HX).res (hnE _ (by omega))⟩ ?_
 clear y0 y1 y2 y3 y4 K2 F2 hT
 rintro x3 ⟨K3, F3, hbx, hrx⟩
 have y2 : x3.cell? ⟨w.heap.size, 2, none⟩ = some (.int .i64 i) := blk_cell (i := 2) hbx
 have HK3 := hide K3
 have HF3 := hide F3
 have HBX := hide (And.intro hbx hrx)
 have HN2 := hide (And.intro N2 (And.intro t1 (And.intro t2 (And.intro hs2 O2))))
 clear K3 F3 hbx hrx N2 t1 t2 hs2 O2
 go_quiet (fail)
 go_upto_region 7 with fail
 refine wp_world (fun z => PkAt z p a2.epoch a2.logs sh2 st2 c2 ∧ Far (PkU p c) x2 z ∧ z.heap[w.heap.size]? = some (.cells #[.int .i64 3, .int .i64 ep, .int .i64 i, .int .i64 q, .string b] 41 (0, 0)) ∧ z.heap[w.heap.size + 1]? = some (.cells zFr 41 (0, 0))) ⟨(unhide HK3).far (far_drewN (fun _ => False) _ _) (fun _ _ h => h), (unhide HF3).trans (far_drewN (fun _ => False) _ _) (fun _ _ h => h.elim), (unhide HBX).1, (unhide HBX).2⟩ ?_
 clear y2 HK3 HF3 HBX
 rintro x4 ⟨K4, F4, hbx, hrx⟩
 obtain ⟨ad, cap, _, clog⟩ := K4.ks.logc hi
 have hll := K4.ks.loglen hi
 obtain ⟨hn, hbd⟩ := unhide HNB
 rw [← hn] at clog hll
 have hO2 := (unhide HN2).2.2.2.2
 have hAB := fun z (hz : Below x4.heap.size x4 z) => hide (ackBody_any ((K4.far (far_below (E := fun _ => False) hz) (fun _ _ h => h)).shAt hi) (K4.ks.are i hi) n (by omega))
 rw [ack_body_same hO2 K4.ks.are hi n, ← hbd] at hAB
 have hLS := fun z (hz : Below x4.heap.size x4 z) => hide (sinkLast_any z p (2 + i * 3) n cap ad ((hz.cell (p := ⟨p, 2 + i * 3, none⟩) (lt_of_block K4.ks.blk)).trans clog))
 have hpx := lt_of_block K4.ks.blk
 have c14 : x4.cell? ⟨p, 1, none⟩ = some (.int .i64 ep) := by rw [blk_cell K4.ks.blk, K4.ks.a1, unhide HEP]
 have y2 : x4.cell? ⟨w.heap.size, 2, none⟩ = some (.int .i64 i) := blk_cell (i := 2) hbx
 have hgb := lt_of_block hbx
 have HK4 := hide K4
 have HF4 := hide F4
 have HBX := hide hrx
 clear K4 F4 hbx hrx hn hbd hO2
 have hnp : p ≠ w.heap.size + 1 := by omega
 refine wp_region_foot (by kernel_rfl)
  [fun v _ => v = .pointer (some ⟨p, 0, none⟩), fun v _ => v = .pointer (some ⟨p, 0, none⟩), fun v _ => v = .pointer (some ⟨p, 1, none⟩), fun v _ => v = .int .i64 ep, fun v _ => v = .pointer (some ⟨w.heap.size, 2, none⟩), fun v _ => v = .int .i64 i,
   fun v _ => v = .pointer (some ⟨p, 2 + i * 3, none⟩), fun v _ => v = .int .i64 n, fun v _ => v = .pointer (some ⟨p, 2 + i * 3, none⟩), fun v _ => v = .int .i64 n, fun v _ => v = .pointer (some ⟨p, 2 + i * 3, none⟩), fun v _ => v = .pointer (some ⟨p, 2 + i * 3, none⟩), fun v _ => v = .pointer (some ⟨p, 2 + i * 3 + 1, none⟩),
   fun v _ => v = .func (.func 165) #[.pointer (some ⟨p, 2 + i * 3 + 1, none⟩)] #[], fun v _ => v = .string bd, fun v _ => v = .agg #[.int .i64 4, .int .i64 ep, .int .i64 i, .int .i64 n, .string bd],
   fun _ z => z.heap[w.heap.size + 1]? = some (.cells #[.int .i64 4, .int .i64 ep, .int .i64 i, .int .i64 n, .string bd] 41 (0, 0)), fun v _ => v = .int .i64 0]
  [[(0, none)], [(36, some 0)], [(37, some 1)], [(38, some 2)], [(3, none)], [(40, some 4)], [(7, none)], [(42, some 6)], [(7, none)], [(44, some 8)], [(7, none)], [(46, some 10)], [(47, some 11)], [(48, some 12)], [(45, some 9), (49, some 13)], [(39, some 3), (41, some 5), (43, some 7), (50, some 14)], [(4, none), (51, some 15)], []] [some 36, some 37, some 38, some 39, some 40, some 41, some 42, some 43, some 44, some 45, some 46, some 47, some 48, some 49, some 50, some 51, none, some 5] [false, false, false, false, false, true, false, false, false, false, false, false, false, false, false, false, false, false, false, false, false, false, false, false, false, false, false, false, false, false, false, false, false, false, false, false, true, true, true, true, true, true, true, true, true, true, true, true, true, true, true, true]
  [(16, fun k => k = w.heap.size + 1)]
  (by kernel_rfl) (by kernel_rfl) (by kernel_rfl) (by kernel_rfl) (by kernel_rfl) ?_ ?_ ?_ ?_
 ·repeat' (first | exact stable_eq _ | exact stable_blk _ _ | exact trivial | apply And.intro)
 ·repeat' (first | exact trivial | exact .inl rfl | exact .inr (.inr (stableF_eq _ _)) | apply And.intro)
 ·refine ⟨?_, ?_, ?_, ?_, ?_, ?_, ?_, ?_, ?_, ?_, ?_, ?_, ?_, ?_, ?_, ?_, ?_, ?_, trivial⟩
  case refine_17 =>
   intro a' z hb hf
   simp only [PlanFacts, List.getD_cons_zero, List.getD_cons_succ, Array.getD_eq_getD_getElem?] at hf
   try simp at hf
   have q0 := hb.blk (unhide HBX) (by
    rintro ⟨q, hq, g1, g2, g3⟩
    simp at hq
    subst hq
    exact g1 rfl)
   clear hb
   rw [if_pos (by rfl)]
   refine wp_store_row 41 (.tmp 4) (.tmp 51) rfl (w.heap.size + 1) #[.int .i64 4, .int .i64 ep, .int .i64 i, .int .i64 n, .string bd] (by simp [Act.eval, hf]) (by simp [Act.eval, hf]) 41 _ q0 (by rw [size_frame]; rfl) rfl (by rw [Array.all_eq_true_iff_forall_mem]; intro u hu; simp at hu; rcases hu with rfl | rfl | rfl | rfl | rfl <;> rfl) ?_
   exact ⟨_, rfl, footOf_of (.head _) (far_setRow _ _ _), setRow_heap _ _ _ _ _ _ q0⟩
  case refine_18 =>
   intro a' z hb hf
   clear hb
   go_simp
   exact ⟨_, rfl, Far.refl _ _, rfl⟩
  all_goals
   intro a' z hb hf
   have hbz : Below x4.heap.size x4 z := foot_below hb (by intro q hq; simp at hq; subst hq; show depB _ 16 _ = true; decide +kernel)
   have z2 := (hbz.cell (p := ⟨w.heap.size, 2, none⟩) hgb).trans y2
   have z1 := (hbz.cell (p := ⟨p, 1, none⟩) hpx).trans c14
   have HA := hide (unhide (hAB z hbz))
   have HL := hide (unhide (hLS z hbz))
   clear hb hbz hAB hLS
   simp only [PlanFacts, List.getD_cons_zero, List.getD_cons_succ, Array.getD_eq_getD_getElem?] at hf
   try simp at hf
   go_simp
   first
    | exact ⟨_, rfl, Far.refl _ _, rfl⟩
    | (refine (unhide HL).mono ?_; rintro r z2 ⟨rfl, rfl⟩; exact ⟨_, rfl, Far.refl _ _, rfl⟩)
    | (refine (unhide HA).mono ?_; rintro r z2 ⟨rfl, hb2⟩; exact ⟨_, rfl, far_below hb2, rfl⟩)
    | skip
 ·intro f z hF hwd
  have h8 := hwd.2.2.2.2.2.2.2.2.2.2.2.2.2.2.2.2.1
  have h9 := hwd.2.2.2.2.2.2.2.2.2.2.2.2.2.2.2.2.2.1
  have q0 : z.cell? ⟨w.heap.size + 1, 0, none⟩ = some (.int .i64 4) := blk_cell (i := 0) h8
  have q1 : z.cell? ⟨w.heap.size + 1, 1, none⟩ = some (.int .i64 ep) := blk_cell (i := 1) h8
  have q2 : z.cell? ⟨w.heap.size + 1, 2, none⟩ = some (.int .i64 i) := blk_cell (i := 2) h8
  have q3 : z.cell? ⟨w.heap.size + 1, 3, none⟩ = some (.int .i64 n) := blk_cell (i := 3) h8
  have q4 : z.cell? ⟨w.heap.size + 1, 4, none⟩ = some (.string bd) := blk_cell (i := 4) h8
  have hF : Far (fun k => k = w.heap.size + 1) x4 z := hF.mono (fun k _ h => by
   obtain ⟨q, hq, h⟩ := h
   simp at hq
   subst hq
   exact h)
  have HFZ := hide hF
  clear hwd hF h8
  simp only [mergeT, h9]
  generalize f 36 = x36
  generalize f 37 = x37
  generalize f 38 = x38
  generalize f 39 = x39
  generalize f 40 = x40
  generalize f 41 = x41
  generalize f 42 = x42
  generalize f 43 = x43
  generalize f 44 = x44
  generalize f 45 = x45
  generalize f 46 = x46
  generalize f 47 = x47
  generalize f 48 = x48
  generalize f 49 = x49
  generalize f 50 = x50
  generalize f 51 = x51
  go_simp
  go_wp2
  refine bodyPost_ret (v := .tuple #[.agg #[.int .i64 4, .int .i64 ep, .int .i64 i, .int .i64 n, .string bd], .int .i64 0]) (by simp [results, Tryz.results110, go_sem, q0, q1, q2, q3, q4]) rfl ⟨rfl, ?_⟩
  obtain ⟨N2, t1, t2, hs2, O2⟩ := unhide HN2
  have hxb := (unhide HX).bel
  have hFz := unhide HFZ
  have hres : ¬ PkU p c2 (w.heap.size + 1) := by
   have hc := unhide HBX
   exact pk_not_cells (unhide HK4) hc (by decide) (by decide) (by decide) (by decide) (by decide) (by decide) (by decide) (by decide)
  refine ⟨sh2, st2, ⟨c2, (unhide HK4).far hFz (fun k hk e => hres (by rw [← e]; exact hk)), ?_, fun k hk => (N2 k hk).imp id (fun h => Nat.le_trans hxb.size h), t1, t2⟩, hs2, O2⟩
  exact ((far_below (E := PkU p c) hxb).trans (unhide HF4) (fun _ _ h => h)).trans hFz (fun k hk e => by omega)
set_option maxRecDepth 100000 in
set_option maxHeartbeats 4000000 in
theorem answerHello_ok {op ct n : Nat} {w : World} {p : Nat} {a : Mod.Sk} {sh : Nat → List (Nat × Value)} {st : Mod.Stv} {c : Sv} (H : PkAt w p a.epoch a.logs sh st c) (hs : Alv op ct n st a.epoch a.logs) (hct : ct + 1000 < 18446744073709551616) (O : OnSh a.held sh) (e : Nat) (s q : Int) (b : ByteArray) (he : a.epoch ≤ e) (hem : e ≤ 2147483647) (hnw : n = 0 ∨ hiW a e < n) :
  Calls Tryz.prog 109 #[ptrTo p, .agg #[.int .i64 1, .int .i64 e, .int .i64 s, .int .i64 q, .string b]] w fun r z =>
   r = .returned (.tuple #[.agg #[.int .i64 2, .int .i64 e, .int .i64 0, .int .i64 0, .string (welB a)], .int .i64 0]) ∧ SkIs2 op (ct + hiW a e) (n - hiW a e) w z p (helloIt a e) c := by
 obtain ⟨nn, hnn⟩ : ∃ nn, nn = n - hiW a e := ⟨_, rfl⟩
 obtain ⟨cc, hcc⟩ : ∃ cc, cc = ct + hiW a e := ⟨_, rfl⟩
 have c1 : w.cell? ⟨p, 1, none⟩ = some (.int .i64 a.epoch) := by rw [blk_cell H.ks.blk, H.ks.a1]
 have hpl := lt_of_block H.ks.blk
 have hBG := fun y (hy : Below w.heap.size w y) => hide (begin_ok (H.far (far_below (E := fun _ => False) hy) (fun _ _ h => h)) hs hct O e he hem hnw)
 rw [← hnn, ← hcc] at hBG ⊢
 clear hnn hcc hnw hs hct
 clear n
 have hlg : (helloIt a e).logs = a.logs := rfl
 have hepE : (helloIt a e).epoch = e := rfl
 obtain ⟨a2, ha2⟩ : ∃ a2, a2 = helloIt a e := ⟨_, rfl⟩
 rw [← ha2] at hBG hlg hepE ⊢
 have hwb := wel_bytes (a.logs 0).length (a.logs 1).length (a.logs 2).length
 have hl0 := H.ks.loglen (i := 0) (by omega)
 have hl1 := H.ks.loglen (i := 1) (by omega)
 have hl2 := H.ks.loglen (i := 2) (by omega)
 obtain ⟨n0, hn0⟩ : ∃ n, n = (a.logs 0).length := ⟨_, rfl⟩
 obtain ⟨n1, hn1⟩ : ∃ n, n = (a.logs 1).length := ⟨_, rfl⟩
 obtain ⟨n2, hn2⟩ : ∃ n, n = (a.logs 2).length := ⟨_, rfl⟩
 obtain ⟨wel, hwel⟩ : ∃ v, v = welB a := ⟨_, rfl⟩
 have hwv : wel = le4S (a.logs 0).length ++ le4S (a.logs 1).length ++ le4S (a.logs 2).length := hwel
 rw [← hwel]
 rw [← hn0, ← hn1, ← hn2] at hwv hwb
 rw [← hwv] at hwb
 rw [← hn0] at hl0
 rw [← hn1] at hl1
 rw [← hn2] at hl2
 have hWB := fun y => hide (welcomeBody_any n0 n1 n2 (by omega) (by omega) (by omega) y)
 rw [hwb] at hWB
 have HNN := hide (And.intro hn0 (And.intro hn1 (And.intro hn2 (And.intro hlg hepE))))
 obtain ⟨ep, hep⟩ : ∃ ep, ep = a.epoch := ⟨_, rfl⟩
 rw [← hep] at c1 he
 have hltI : ¬ (e : Int) < (ep : Int) := by omega
 have hUl := hide H.lt
 have DD := hide (rsAt_new w #[.int .i64 1, .int .i64 e, .int .i64 s, .int .i64 q, .string b] zFr)
 clear H hep ha2 hlg hepE hn0 hn1 hn2 hwel hwv hwb
 unfold ptrTo at *
 go_enter Tryz.func109, Tryz.ntmps109
 go_upto_region 1 with fail
 refine wp_world (RsAt w #[.int .i64 1, .int .i64 e, .int .i64 s, .int .i64 q, .string b] zFr) (unhide DD) ?_
 clear DD
 intro x X
 have y1 := blk_cell (i := 1) X.box
 simp at y1
 have z1 := (X.bel.cell (p := ⟨p, 1, none⟩) hpl).trans c1
 have HX := hide X
 clear X
 go_quiet (fail)
 go_upto_region 3 with fail
 refine wp_world (RsAt w #[.int .i64 1, .int .i64 e, .int .i64 s, .int .i64 q, .string b] zFr) ((unhide HX).drewN _) ?_
 clear HX y1 z1
 intro x2 X
 have y1 := blk_cell (i := 1) X.box
 simp at y1
 have hT := hide (unhide (hBG x2 X.bel))
 have HX := hide X
 clear X hBG
 go_upto_region 6 with (go_at_call 160; refine (unhide hT).mono ?_; rintro r y ⟨rfl, hk⟩)
 obtain ⟨sh2, st2, ⟨c2, K2, F2, N2, t1, t2⟩, hs2, O2⟩ := hk
 have hnE : ∀ k, w.heap.size ≤ k → ¬ PkU p c k := fun k hk h => by have := (unhide hUl) k h; omega
 have hgx := (unhide HX).lt
 have hys := F2.size
 obtain ⟨g7, hg7⟩ : ∃ g7, g7 = y.heap.size := ⟨_, rfl⟩
 have HR2 := hide (F2.blk (unhide HX).res (hnE _ (by omega)))
 have HK2 := hide K2
 have HF2 := hide F2
 have HN2 := hide (And.intro N2 (And.intro t1 (And.intro t2 (And.intro hs2 O2))))
 clear hT K2 F2 N2 t1 t2 hs2 O2 y1
 go_upto_region 7 with fail
 rw [← hg7]
 refine wp_world (fun z => PkAt z p a2.epoch a2.logs sh2 st2 c2 ∧ Far (PkU p c) x2 z ∧ z.heap[w.heap.size + 1]? = some (.cells zFr 41 (0, 0)) ∧ z.heap[g7]? = some (.cells #[.int .i64 0, .int .i64 0, .int .i64 0] 98 (0, 0))) ?_ ?_
 ·have hb : ∀ o, Below y.heap.size y (y.alloc o) := fun o => (Below.refl _ _).alloc (Nat.le_refl _) o
  refine ⟨(unhide HK2).far (far_below (E := fun _ => False) (hb _)) (fun _ _ h => h), (unhide HF2).trans (far_below (E := fun _ => False) (hb _)) (fun _ _ h => h.elim), ((hb _).block _ (by omega)).trans (unhide HR2), by rw [hg7]; exact heap_alloc_new _ _⟩
 have hg7w : w.heap.size + 1 < g7 := by omega
 have hx2g : x2.heap.size ≤ g7 := by omega
 clear HR2 HK2 HF2 hg7 hys
 rintro x3 ⟨K3, F3, hrx, hgx3⟩
 have HQ := hide (And.intro K3 (And.intro F3 (And.intro hrx hgx3)))
 clear K3 F3 hrx hgx3
 go_wp2
 go_loopw [8, 29] (fun _ i wr => ∃ j : Nat, j ≤ 3 ∧ i = .int .i64 j ∧ PkAt wr p a2.epoch a2.logs sh2 st2 c2 ∧ Far (PkU p c) x2 wr ∧ wr.heap[w.heap.size + 1]? = some (.cells zFr 41 (0, 0)) ∧ wr.heap[g7]? = some (.cells #[.int .i64 (if 0 < j then n0 else 0 : Nat), .int .i64 (if 1 < j then n1 else 0 : Nat), .int .i64 (if 2 < j then n2 else 0 : Nat)] 98 (0, 0))) (fun _ i _ => 3 - (intOf i).toNat)
 case atStart =>
  obtain ⟨K3, F3, hrx, hgx3⟩ := unhide HQ
  exact ⟨0, by omega, rfl, K3, F3, hrx, by simpa using hgx3⟩
 case round =>
  obtain ⟨j, hj, rfl, K, F, hr, hg⟩ := hrel
  clear HQ
  have hngp : ¬ PkU p c2 g7 := pk_not_cells K hg (by decide) (by decide) (by decide) (by decide) (by decide) (by decide) (by decide) (by decide)
  obtain ⟨ea, eb, ec, ed, ee⟩ := unhide HNN
  obtain ⟨ad0, cap0, _, c0⟩ := K.ks.logc (i := 0) (by omega)
  obtain ⟨ad1, cap1, _, c1'⟩ := K.ks.logc (i := 1) (by omega)
  obtain ⟨ad2, cap2, _, c2'⟩ := K.ks.logc (i := 2) (by omega)
  rw [ed, ← ea] at c0
  rw [ed, ← eb] at c1'
  rw [ed, ← ec] at c2'
  have hL0 := hide (sinkLast_any wr p 2 n0 cap0 ad0 c0)
  have hL1 := hide (sinkLast_any wr p 5 n1 cap1 ad1 c1')
  have hL2 := hide (sinkLast_any wr p 8 n2 cap2 ad2 c2')
  have hnext : ∀ (k : Nat) (v : Value), PkAt (wr.setCell ⟨g7, k, none⟩ v) p a2.epoch a2.logs sh2 st2 c2 ∧ Far (PkU p c) x2 (wr.setCell ⟨g7, k, none⟩ v) ∧ (wr.setCell ⟨g7, k, none⟩ v).heap[w.heap.size + 1]? = some (.cells zFr 41 (0, 0)) := fun k v => by
   have hf := far_set wr g7 k v
   exact ⟨K.far hf (fun k hk e => hngp (by rw [← e]; exact hk)), F.trans hf (fun k hk e => by omega), hf.blk hr (by omega)⟩
  have HNX := hide hnext
  have hset := fun k v => blk_set (j := k) (v := v) hg
  have g0 := blk_cell (i := 0) hg
  have g1 := blk_cell (i := 1) hg
  have g2 := blk_cell (i := 2) hg
  have f0 := blk_free (i := 0) hg
  have f1 := blk_free (i := 1) hg
  have f2 := blk_free (i := 2) hg
  have HST := hide hset
  have HKK := hide K
  have HFF := hide F
  have HRR := hide hr
  have HGG := hide hg
  rcases (show j = 0 ∨ j = 1 ∨ j = 2 ∨ j = 3 by omega) with rfl | rfl | rfl | rfl
  ·simp at g0
   clear K F hr hg hnext hset c0 c1' c2' ea eb ec ed ee g1 g2
   go_wp2_with (go_at_call 161; refine (unhide hL0).mono ?_; rintro r y ⟨rfl, rfl⟩)
   refine ⟨⟨1, by omega, by go_num, ?_⟩, by simp [intOf]⟩
   obtain ⟨h1, h2, h3⟩ := (unhide HNX) 0 (.int .i64 n0)
   exact ⟨h1, h2, h3, by simpa using (unhide HST) 0 (.int .i64 n0)⟩
  ·simp at g1
   clear K F hr hg hnext hset c0 c1' c2' ea eb ec ed ee g0 g2
   go_wp2_with (go_at_call 161; refine (unhide hL1).mono ?_; rintro r y ⟨rfl, rfl⟩)
   refine ⟨⟨2, by omega, by go_num, ?_⟩, by simp [intOf]⟩
   obtain ⟨h1, h2, h3⟩ := (unhide HNX) 1 (.int .i64 n1)
   exact ⟨h1, h2, h3, by simpa using (unhide HST) 1 (.int .i64 n1)⟩
  ·simp at g2
   clear K F hr hg hnext hset c0 c1' c2' ea eb ec ed ee g0 g1
   go_wp2_with (go_at_call 161; refine (unhide hL2).mono ?_; rintro r y ⟨rfl, rfl⟩)
   refine ⟨⟨3, by omega, by go_num, ?_⟩, by simp [intOf]⟩
   obtain ⟨h1, h2, h3⟩ := (unhide HNX) 2 (.int .i64 n2)
   exact ⟨h1, h2, h3, by simpa using (unhide HST) 2 (.int .i64 n2)⟩
  ·simp at g0 g1 g2
   have c14 : wr.cell? ⟨p, 1, none⟩ = some (.int .i64 e) := by rw [blk_cell K.ks.blk, K.ks.a1, ee]
   have hpx := lt_of_block K.ks.blk
   have hgl := lt_of_block hg
   clear K F hr hg hnext hset c0 c1' c2' ea eb ec ed ee hL0 hL1 hL2
   go_upto_region 12 with fail
   refine wp_region_foot (by kernel_rfl)
    [fun v _ => v = .pointer (some ⟨p, 0, none⟩), fun v _ => v = .pointer (some ⟨p, 0, none⟩), fun v _ => v = .pointer (some ⟨p, 1, none⟩), fun v _ => v = .int .i64 e, fun v _ => v = .agg #[.int .i64 n0, .int .i64 n1, .int .i64 n2], fun v _ => v = .string wel, fun v _ => v = .agg #[.int .i64 2, .int .i64 e, .int .i64 0, .int .i64 0, .string wel],
     fun _ z => z.heap[w.heap.size + 1]? = some (.cells #[.int .i64 2, .int .i64 e, .int .i64 0, .int .i64 0, .string wel] 41 (0, 0)), fun v _ => v = .int .i64 0]
    [[(0, none)], [(41, some 0)], [(42, some 1)], [(43, some 2)], [(7, none)], [(45, some 4)], [(44, some 3), (46, some 5)], [(4, none), (47, some 6)], []] [some 41, some 42, some 43, some 44, some 45, some 46, some 47, none, some 5] [false, false, false, false, false, true, false, false, false, false, false, false, false, false, false, false, false, false, false, false, false, false, false, false, false, false, false, false, false, false, false, false, false, false, false, false, false, false, false, false, false, true, true, true, true, true, true, true]
    [(7, fun k => k = w.heap.size + 1)]
    (by kernel_rfl) (by kernel_rfl) (by kernel_rfl) (by kernel_rfl) (by kernel_rfl) ?_ ?_ ?_ ?_
   ·repeat' (first | exact stable_eq _ | exact stable_blk _ _ | exact trivial | apply And.intro)
   ·repeat' (first | exact trivial | exact .inl rfl | exact .inr (.inr (stableF_eq _ _)) | apply And.intro)
   ·refine ⟨?_, ?_, ?_, ?_, ?_, ?_, ?_, ?_, ?_, trivial⟩
    case refine_8 =>
     intro a' z hb hf
     simp only [PlanFacts, List.getD_cons_zero, List.getD_cons_succ, Array.getD_eq_getD_getElem?] at hf
     try simp at hf
     have q0 := hb.blk (unhide HRR) (by
      rintro ⟨q, hq, g1, g2, g3⟩
      simp at hq
      subst hq
      exact g1 rfl)
     clear hb
     rw [if_pos (by rfl)]
     refine wp_store_row 41 (.tmp 4) (.tmp 47) rfl (w.heap.size + 1) #[.int .i64 2, .int .i64 e, .int .i64 0, .int .i64 0, .string wel] (by simp [Act.eval, hf]) (by simp [Act.eval, hf]) 41 _ q0 (by rw [size_frame]; rfl) rfl (by rw [Array.all_eq_true_iff_forall_mem]; intro u hu; simp at hu; rcases hu with rfl | rfl | rfl | rfl | rfl <;> rfl) ?_
     exact ⟨_, rfl, footOf_of (.head _) (far_setRow _ _ _), setRow_heap _ _ _ _ _ _ q0⟩
    case refine_9 =>
     intro a' z hb hf
     clear hb
     go_simp
     exact ⟨_, rfl, Far.refl _ _, rfl⟩
    all_goals
     intro a' z hb hf
     have hbz : Below wr.heap.size wr z := foot_below hb (by intro q hq; simp at hq; subst hq; show depB _ 7 _ = true; decide +kernel)
     have z1 := (hbz.cell (p := ⟨p, 1, none⟩) hpx).trans c14
     have e0 := (hbz.cell (p := ⟨g7, 0, none⟩) hgl).trans g0
     have e1 := (hbz.cell (p := ⟨g7, 1, none⟩) hgl).trans g1
     have e2 := (hbz.cell (p := ⟨g7, 2, none⟩) hgl).trans g2
     clear hb hbz
     simp only [PlanFacts, List.getD_cons_zero, List.getD_cons_succ, Array.getD_eq_getD_getElem?] at hf
     try simp at hf
     go_simp
     first
      | exact ⟨_, rfl, Far.refl _ _, rfl⟩
      | (refine (unhide (hWB z)).mono ?_; rintro r z2 ⟨rfl, hb2⟩; exact ⟨_, rfl, far_below hb2, rfl⟩)
      | skip
   ·intro f z hF hwd
    have h8 := hwd.2.2.2.2.2.2.2.1
    have h9 := hwd.2.2.2.2.2.2.2.2.1
    have q0 : z.cell? ⟨w.heap.size + 1, 0, none⟩ = some (.int .i64 2) := blk_cell (i := 0) h8
    have q1 : z.cell? ⟨w.heap.size + 1, 1, none⟩ = some (.int .i64 e) := blk_cell (i := 1) h8
    have q2 : z.cell? ⟨w.heap.size + 1, 2, none⟩ = some (.int .i64 0) := blk_cell (i := 2) h8
    have q3 : z.cell? ⟨w.heap.size + 1, 3, none⟩ = some (.int .i64 0) := blk_cell (i := 3) h8
    have q4 : z.cell? ⟨w.heap.size + 1, 4, none⟩ = some (.string wel) := blk_cell (i := 4) h8
    have hF : Far (fun k => k = w.heap.size + 1) wr z := hF.mono (fun k _ h => by
     obtain ⟨q, hq, h⟩ := h
     simp at hq
     subst hq
     exact h)
    have HFZ := hide hF
    clear hwd hF h8
    simp only [mergeT, h9]
    generalize f 41 = x41
    generalize f 42 = x42
    generalize f 43 = x43
    generalize f 44 = x44
    generalize f 45 = x45
    generalize f 46 = x46
    generalize f 47 = x47
    go_simp
    go_wp2
    refine bodyPost_ret (v := .tuple #[.agg #[.int .i64 2, .int .i64 e, .int .i64 0, .int .i64 0, .string wel], .int .i64 0]) (by simp [results, Tryz.results109, go_sem, q0, q1, q2, q3, q4]) rfl ⟨rfl, ?_⟩
    obtain ⟨N2, t1, t2, hs2, O2⟩ := unhide HN2
    have hxb := (unhide HX).bel
    have hFz := unhide HFZ
    have hres : ¬ PkU p c2 (w.heap.size + 1) := pk_not_cells (unhide HKK) (unhide HRR) (by decide) (by decide) (by decide) (by decide) (by decide) (by decide) (by decide) (by decide)
    refine ⟨sh2, st2, ⟨c2, (unhide HKK).far hFz (fun k hk e => hres (by rw [← e]; exact hk)), ?_, fun k hk => (N2 k hk).imp id (fun h => Nat.le_trans hxb.size h), t1, t2⟩, hs2, O2⟩
    exact ((far_below (E := PkU p c) hxb).trans (unhide HFF) (fun _ _ h => h)).trans hFz (fun k hk e => by omega)
end Go.Proofs.YtamafdcnbcoegaaGreat
namespace Go.Proofs.YtamafdcnbcoegaaGreat
open Go.RowKit
set_option maxRecDepth 100000 in
set_option maxHeartbeats 4000000 in
theorem answerByH_okR {w : World} {p : Nat} {R : World → World → Prop} (hbeh : ∀ {u v z : World}, R v z → Below u.heap.size u v → R u z) (kd k e s q : Int) (b : ByteArray) (k' e' s' q' : Int) (b' : ByteArray) (hp : Wire.proper k' e' s' q' b' = true)
  (hC : ∀ y, Below w.heap.size w y → Calls Tryz.prog 109 #[ptrTo p, .agg #[.int .i64 k, .int .i64 e, .int .i64 s, .int .i64 q, .string b]] y fun r z => r = .returned (.tuple #[.agg #[.int .i64 k', .int .i64 e', .int .i64 s', .int .i64 q', .string b'], .int .i64 0]) ∧ R y z) :
  Calls Tryz.prog 98 #[.agg #[.int .i64 kd, .func (.func 109) #[ptrTo p] #[]], .agg #[.int .i64 k, .int .i64 e, .int .i64 s, .int .i64 q, .string b]] w fun r z =>
   ∃ lv fs x, r = .returned (.tuple #[lv, .int .i64 0]) ∧ R w x ∧ Below x.heap.size x z ∧ FramesOut x.heap.size z lv fs [⟨(Wire.bytes k' e' s' q' b'.data.toList).toArray⟩] (fun _ => False) := by
 have hFB := fun y => hide (frameBytes_any k' e' s' q' b' y hp)
 have hCC := fun y hy => hide (hC y hy)
 have HB0 := hide (alloc2 w (.cells #[.int .i64 kd, .func (.func 109) #[ptrTo p] #[]] 179) (.cells #[.int .i64 k, .int .i64 e, .int .i64 s, .int .i64 q, .string b] 41))
 clear hC hp
 unfold ptrTo at *
 go_enter Tryz.func98, Tryz.ntmps98
 go_upto_region 1 with fail
 refine wp_world (fun x => x.heap[w.heap.size]? = some (.cells #[.int .i64 kd, .func (.func 109) #[.pointer (some ⟨p, 0, none⟩)] #[]] 179 (0, 0)) ∧ x.heap[w.heap.size + 1]? = some (.cells #[.int .i64 k, .int .i64 e, .int .i64 s, .int .i64 q, .string b] 41 (0, 0)) ∧ Below w.heap.size w x) (unhide HB0) ?_
 clear HB0
 rintro x ⟨h0, h1, hb⟩
 have y1 := blk_cell (i := 1) h0
 have z0 := blk_cell (i := 0) h1
 have z1 := blk_cell (i := 1) h1
 have z2 := blk_cell (i := 2) h1
 have z3 := blk_cell (i := 3) h1
 have z4 := blk_cell (i := 4) h1
 simp at y1 z0 z1 z2 z3 z4
 have hCX := hide (unhide (hCC x hb))
 have HB := hide hb
 clear h0 h1 hb hCC
 go_upto_region 2 with (go_at_call 109; refine (unhide hCX).mono ?_; rintro r y ⟨rfl, hk⟩)
 obtain ⟨g6, hg6⟩ : ∃ g6, g6 = y.heap.size := ⟨_, rfl⟩
 have HG6 := hide hg6
 rw [← hg6]
 have HK := hide (hbeh hk (unhide HB))
 clear hk hg6
 refine wp_world (fun u => u.heap[g6]? = some (.cells #[.int .i64 k', .int .i64 e', .int .i64 s', .int .i64 q', .string b'] 41 (0, 0)) ∧ Below y.heap.size y u) ?_ ?_
 ·rw [unhide HG6]
  exact ⟨heap_alloc_new _ _, (Below.refl _ _).alloc (Nat.le_refl _) _⟩
 clear y1 z0 z1 z2 z3 z4 hCX
 rintro u ⟨h6, hbu⟩
 have z0 := blk_cell (i := 0) h6
 have z1 := blk_cell (i := 1) h6
 have z2 := blk_cell (i := 2) h6
 have z3 := blk_cell (i := 3) h6
 have z4 := blk_cell (i := 4) h6
 simp at z0 z1 z2 z3 z4
 have HU := hide hbu
 clear h6 hbu
 go_wp2_with (go_at_call 92; refine (unhide (hFB _)).mono ?_; rintro r v ⟨bv', rfl, hown, hb2⟩; obtain ⟨ad, cap, rfl, _⟩ := hown.shape; replace hown := hide hown; replace hb2 := hide hb2)
 go_ret2
 have hbv := (unhide hb2)
 have ho := unhide hown
 have hsz := (unhide HU).size
 have hb3 : Below y.heap.size y v := (unhide HU).trans (hbv.mono hsz)
 refine ⟨_, _, y, rfl, unhide HK, hb3.alloc hb3.size _, framesOut_one (World.ownsRow.alloc (ho.mono (by omega)) _) hb3.size (heap_alloc_new _ _)⟩
set_option maxRecDepth 100000 in
set_option maxHeartbeats 4000000 in
theorem answerByD_okR {w : World} {p : Nat} {R : World → World → Prop} (hbeh : ∀ {u v z : World}, R v z → Below u.heap.size u v → R u z) (kd k e s q : Int) (b : ByteArray) (k' e' s' q' : Int) (b' : ByteArray) (hp : Wire.proper k' e' s' q' b' = true)
  (hC : ∀ y, Below w.heap.size w y → Calls Tryz.prog 110 #[ptrTo p, .agg #[.int .i64 k, .int .i64 e, .int .i64 s, .int .i64 q, .string b]] y fun r z => r = .returned (.tuple #[.agg #[.int .i64 k', .int .i64 e', .int .i64 s', .int .i64 q', .string b'], .int .i64 0]) ∧ R y z) :
  Calls Tryz.prog 98 #[.agg #[.int .i64 kd, .func (.func 110) #[ptrTo p] #[]], .agg #[.int .i64 k, .int .i64 e, .int .i64 s, .int .i64 q, .string b]] w fun r z =>
   ∃ lv fs x, r = .returned (.tuple #[lv, .int .i64 0]) ∧ R w x ∧ Below x.heap.size x z ∧ FramesOut x.heap.size z lv fs [⟨(Wire.bytes k' e' s' q' b'.data.toList).toArray⟩] (fun _ => False) := by
 have hFB := fun y => hide (frameBytes_any k' e' s' q' b' y hp)
 have hCC := fun y hy => hide (hC y hy)
 have HB0 := hide (alloc2 w (.cells #[.int .i64 kd, .func (.func 110) #[ptrTo p] #[]] 179) (.cells #[.int .i64 k, .int .i64 e, .int .i64 s, .int .i64 q, .string b] 41))
 clear hC hp
 unfold ptrTo at *
 go_enter Tryz.func98, Tryz.ntmps98
 go_upto_region 1 with fail
 refine wp_world (fun x => x.heap[w.heap.size]? = some (.cells #[.int .i64 kd, .func (.func 110) #[.pointer (some ⟨p, 0, none⟩)] #[]] 179 (0, 0)) ∧ x.heap[w.heap.size + 1]? = some (.cells #[.int .i64 k, .int .i64 e, .int .i64 s, .int .i64 q, .string b] 41 (0, 0)) ∧ Below w.heap.size w x) (unhide HB0) ?_
 clear HB0
 rintro x ⟨h0, h1, hb⟩
 have y1 := blk_cell (i := 1) h0
 have z0 := blk_cell (i := 0) h1
 have z1 := blk_cell (i := 1) h1
 have z2 := blk_cell (i := 2) h1
 have z3 := blk_cell (i := 3) h1
 have z4 := blk_cell (i := 4) h1
 simp at y1 z0 z1 z2 z3 z4
 have hCX := hide (unhide (hCC x hb))
 have HB := hide hb
 clear h0 h1 hb hCC
 go_upto_region 2 with (go_at_call 110; refine (unhide hCX).mono ?_; rintro r y ⟨rfl, hk⟩)
 obtain ⟨g6, hg6⟩ : ∃ g6, g6 = y.heap.size := ⟨_, rfl⟩
 have HG6 := hide hg6
 rw [← hg6]
 have HK := hide (hbeh hk (unhide HB))
 clear hk hg6
 refine wp_world (fun u => u.heap[g6]? = some (.cells #[.int .i64 k', .int .i64 e', .int .i64 s', .int .i64 q', .string b'] 41 (0, 0)) ∧ Below y.heap.size y u) ?_ ?_
 ·rw [unhide HG6]
  exact ⟨heap_alloc_new _ _, (Below.refl _ _).alloc (Nat.le_refl _) _⟩
 clear y1 z0 z1 z2 z3 z4 hCX
 rintro u ⟨h6, hbu⟩
 have z0 := blk_cell (i := 0) h6
 have z1 := blk_cell (i := 1) h6
 have z2 := blk_cell (i := 2) h6
 have z3 := blk_cell (i := 3) h6
 have z4 := blk_cell (i := 4) h6
 simp at z0 z1 z2 z3 z4
 have HU := hide hbu
 clear h6 hbu
 go_wp2_with (go_at_call 92; refine (unhide (hFB _)).mono ?_; rintro r v ⟨bv', rfl, hown, hb2⟩; obtain ⟨ad, cap, rfl, _⟩ := hown.shape; replace hown := hide hown; replace hb2 := hide hb2)
 go_ret2
 have hbv := (unhide hb2)
 have ho := unhide hown
 have hsz := (unhide HU).size
 have hb3 : Below y.heap.size y v := (unhide HU).trans (hbv.mono hsz)
 refine ⟨_, _, y, rfl, unhide HK, hb3.alloc hb3.size _, framesOut_one (World.ownsRow.alloc (ho.mono (by omega)) _) hb3.size (heap_alloc_new _ _)⟩
end Go.Proofs.YtamafdcnbcoegaaGreat
namespace Go.Proofs.YtamafdcnbcoegaaGreat
open Go.RowKit
def DlR (R : World → World → Prop) (w z : World) (er : Int) (r : Ending) (Fl : List ByteArray) : Prop :=
 ∃ lv fs x, r = .returned (.tuple #[lv, .int .i64 er]) ∧ R w x ∧ Below x.heap.size x z ∧ FramesOut x.heap.size z lv fs Fl (fun _ => False)
set_option maxRecDepth 100000 in
set_option maxHeartbeats 4000000 in
theorem sinkDeliverH_R {w : World} {p : Nat} {a : Mod.Sk} {R : World → World → Prop} {er : Int} {sh : Nat → List (Nat × Value)} {st : Mod.Stv} {c : Sv} (H : PkAt w p a.epoch a.logs sh st c) (hs : st.dk.dead = false) (bs : Value) (hbeh : ∀ {u v z : World}, R v z → Below u.heap.size u v → R u z) (k e s q : Int) (b : ByteArray) (hk : k = 1) {Fl : List ByteArray}
  (hDec : ∀ y, Below w.heap.size w y → Calls Tryz.prog 54 #[bs] y fun r z => r = .returned (.tuple #[.agg #[.int .i64 k, .int .i64 e, .int .i64 s, .int .i64 q, .string b], .int .i64 0]) ∧ Below y.heap.size y z)
  (hC : ∀ y, Below w.heap.size w y → Calls Tryz.prog 98 #[.agg #[.int .i64 1, .func (.func 109) #[ptrTo p] #[]], .agg #[.int .i64 k, .int .i64 e, .int .i64 s, .int .i64 q, .string b]] y fun r z =>
   ∃ lv fs x, r = .returned (.tuple #[lv, .int .i64 er]) ∧ R y x ∧ Below x.heap.size x z ∧ FramesOut x.heap.size z lv fs Fl (fun _ => False)) :
  Calls Tryz.prog 56 #[ptrTo p, bs] w fun r z => DlR R w z er r Fl := by
 have c0 : w.cell? ⟨p, 0, none⟩ = some (ptrTo c.s) := by rw [blk_cell H.ks.blk, H.ks.a0]
 have hID := storeIsDead_any H.stt
 rw [hs] at hID
 have HID := hide hID
 have HDC := hide (hDec w (Below.refl _ _))
 subst hk
 have hCC := fun y hy => hide (hC y hy)
 clear hC
 obtain ⟨ad, cap, hrv, hcap1, hcap2, hcells⟩ := H.rl.shape
 obtain ⟨g, o, rfl, hcl⟩ := hcells (by omega)
 have r0 : w.cell? ⟨g, o, none⟩ = some (.int .i64 1) := by have := hcl 0 (by omega); simpa [rulesOf] using this
 have r1 : w.cell? ⟨g, o + 1, none⟩ = some (.func (.func 109) #[ptrTo p] #[]) := by have := hcl 1 (by omega); simpa [rulesOf] using this
 have r2 : w.cell? ⟨g, o + 2, none⟩ = some (.int .i64 3) := by have := hcl 2 (by omega); simpa [rulesOf] using this
 have r3 : w.cell? ⟨g, o + 2 + 1, none⟩ = some (.func (.func 110) #[ptrTo p] #[]) := by have := hcl 3 (by omega); simpa [rulesOf] using this
 have c11 : w.cell? ⟨p, 11, none⟩ = some (.slice (some ⟨g, o, none⟩) 2 cap) := by rw [blk_cell H.ks.blk, H.ks.ar, hrv]
 have hgl : g < w.heap.size := World.block_lt_of_cell? _ _ r0
 have hpl := lt_of_block H.ks.blk
 clear H hID hDec hcl hcells hrv
 unfold ptrTo at *
 go_enter Tryz.func56, Tryz.ntmps56
 go_upto_region 4 with (first | (go_at_call 86; refine (unhide HID).mono ?_; rintro r y ⟨rfl, hyw⟩; obtain rfl : w = y := hyw.symm) | (go_at_call 54; refine (unhide HDC).mono ?_; rintro r y ⟨rfl, hb⟩))
 obtain ⟨g6, hg6⟩ : ∃ g6, g6 = y.heap.size := ⟨_, rfl⟩
 have hgw : w.heap.size ≤ g6 := by have := hb.size; omega
 have HG6 := hide hg6
 have HB := hide hb
 rw [← hg6]
 clear hg6 hb
 refine wp_world (fun u => u.heap[g6]? = some (.cells #[.int .i64 1, .int .i64 e, .int .i64 s, .int .i64 q, .string b] 41 (0, 0)) ∧ Below w.heap.size w u) ?_ ?_
 ·rw [unhide HG6]
  exact ⟨heap_alloc_new _ _, (unhide HB).alloc (unhide HB).size _⟩
 clear HG6 HB c0 HDC HID
 rintro u ⟨h6, hbu⟩
 have d11 := (hbu.cell (p := ⟨p, 11, none⟩) hpl).trans c11
 have H6 := hide h6
 have HU := hide hbu
 clear h6 hbu
 go_wp2
 go_loopw [9, 28] (fun _ i wr => ∃ j : Nat, j ≤ 0 ∧ i = .int .i64 j ∧ wr.heap[g6]? = some (.cells #[.int .i64 1, .int .i64 e, .int .i64 s, .int .i64 q, .string b] 41 (0, 0)) ∧ Below w.heap.size w wr) (fun _ i _ => 3 - (intOf i).toNat)
 case atStart => exact ⟨0, by omega, rfl, unhide H6, unhide HU⟩
 case round =>
  obtain ⟨j, hj, rfl, h6, hb⟩ := hrel
  clear H6 HU d11
  have s0 := (hb.cell (p := ⟨g, o, none⟩) hgl).trans r0
  have s1 := (hb.cell (p := ⟨g, o + 1, none⟩) hgl).trans r1
  have s2 := (hb.cell (p := ⟨g, o + 2, none⟩) hgl).trans r2
  have s3 := (hb.cell (p := ⟨g, o + 2 + 1, none⟩) hgl).trans r3
  have y0 := blk_cell (i := 0) h6
  have y1 := blk_cell (i := 1) h6
  have y2 := blk_cell (i := 2) h6
  have y3 := blk_cell (i := 3) h6
  have y4 := blk_cell (i := 4) h6
  simp at y0 y1 y2 y3 y4
  have h6l := lt_of_block h6
  have HH6 := hide h6
  have HBB := hide hb
  have hnext : ∀ ob, (wr.alloc ob).heap[g6]? = some (.cells #[.int .i64 1, .int .i64 e, .int .i64 s, .int .i64 q, .string b] 41 (0, 0)) ∧ Below w.heap.size w (wr.alloc ob) := fun ob => ⟨(hao _ _ h6l).trans h6, hb.alloc hb.size _⟩
  have HNX := hide hnext
  clear h6 hb hnext r0 r1 r2 r3
  have hsf1 : ∀ (ad : Addr) (m : Mode) (z : World), (store ad (.func (.func 109) #[.pointer (some ⟨p, 0, none⟩)] #[]) m).run Tryz.prog z = stored Tryz.prog z ad (.func (.func 109) #[.pointer (some ⟨p, 0, none⟩)] #[]) m := fun ad m z => run_store _ _ _ _ _ rfl
  have hsf2 : ∀ (ad : Addr) (m : Mode) (z : World), (store ad (.func (.func 110) #[.pointer (some ⟨p, 0, none⟩)] #[]) m).run Tryz.prog z = stored Tryz.prog z ad (.func (.func 110) #[.pointer (some ⟨p, 0, none⟩)] #[]) m := fun ad m z => run_store _ _ _ _ _ rfl
  obtain rfl : j = 0 := by omega
  focus
   go_wp2_with (go_at_call 98; refine (unhide (hCC _ (by first | exact ((unhide HNX) _).2 | exact (unhide HBB)))).mono ?_; rintro r z ⟨lv, fs, x, rfl, k1, k2, k3⟩; replace k1 := hide k1; replace k2 := hide k2; replace k3 := hide k3)
   go_ret2
   exact ⟨lv, fs, x, rfl, hbeh (unhide k1) (by first | exact ((unhide HNX) _).2 | exact (unhide HBB)), unhide k2, unhide k3⟩
set_option maxRecDepth 100000 in
set_option maxHeartbeats 4000000 in
theorem sinkDeliverD_R {w : World} {p : Nat} {a : Mod.Sk} {R : World → World → Prop} {er : Int} {sh : Nat → List (Nat × Value)} {st : Mod.Stv} {c : Sv} (H : PkAt w p a.epoch a.logs sh st c) (hs : st.dk.dead = false) (bs : Value) (hbeh : ∀ {u v z : World}, R v z → Below u.heap.size u v → R u z) (k e s q : Int) (b : ByteArray) (hk : k = 3) {Fl : List ByteArray}
  (hDec : ∀ y, Below w.heap.size w y → Calls Tryz.prog 54 #[bs] y fun r z => r = .returned (.tuple #[.agg #[.int .i64 k, .int .i64 e, .int .i64 s, .int .i64 q, .string b], .int .i64 0]) ∧ Below y.heap.size y z)
  (hC : ∀ y, Below w.heap.size w y → Calls Tryz.prog 98 #[.agg #[.int .i64 3, .func (.func 110) #[ptrTo p] #[]], .agg #[.int .i64 k, .int .i64 e, .int .i64 s, .int .i64 q, .string b]] y fun r z =>
   ∃ lv fs x, r = .returned (.tuple #[lv, .int .i64 er]) ∧ R y x ∧ Below x.heap.size x z ∧ FramesOut x.heap.size z lv fs Fl (fun _ => False)) :
  Calls Tryz.prog 56 #[ptrTo p, bs] w fun r z => DlR R w z er r Fl := by
 have c0 : w.cell? ⟨p, 0, none⟩ = some (ptrTo c.s) := by rw [blk_cell H.ks.blk, H.ks.a0]
 have hID := storeIsDead_any H.stt
 rw [hs] at hID
 have HID := hide hID
 have HDC := hide (hDec w (Below.refl _ _))
 subst hk
 have hCC := fun y hy => hide (hC y hy)
 clear hC
 obtain ⟨ad, cap, hrv, hcap1, hcap2, hcells⟩ := H.rl.shape
 obtain ⟨g, o, rfl, hcl⟩ := hcells (by omega)
 have r0 : w.cell? ⟨g, o, none⟩ = some (.int .i64 1) := by have := hcl 0 (by omega); simpa [rulesOf] using this
 have r1 : w.cell? ⟨g, o + 1, none⟩ = some (.func (.func 109) #[ptrTo p] #[]) := by have := hcl 1 (by omega); simpa [rulesOf] using this
 have r2 : w.cell? ⟨g, o + 2, none⟩ = some (.int .i64 3) := by have := hcl 2 (by omega); simpa [rulesOf] using this
 have r3 : w.cell? ⟨g, o + 2 + 1, none⟩ = some (.func (.func 110) #[ptrTo p] #[]) := by have := hcl 3 (by omega); simpa [rulesOf] using this
 have c11 : w.cell? ⟨p, 11, none⟩ = some (.slice (some ⟨g, o, none⟩) 2 cap) := by rw [blk_cell H.ks.blk, H.ks.ar, hrv]
 have hgl : g < w.heap.size := World.block_lt_of_cell? _ _ r0
 have hpl := lt_of_block H.ks.blk
 clear H hID hDec hcl hcells hrv
 unfold ptrTo at *
 go_enter Tryz.func56, Tryz.ntmps56
 go_upto_region 4 with (first | (go_at_call 86; refine (unhide HID).mono ?_; rintro r y ⟨rfl, hyw⟩; obtain rfl : w = y := hyw.symm) | (go_at_call 54; refine (unhide HDC).mono ?_; rintro r y ⟨rfl, hb⟩))
 obtain ⟨g6, hg6⟩ : ∃ g6, g6 = y.heap.size := ⟨_, rfl⟩
 have hgw : w.heap.size ≤ g6 := by have := hb.size; omega
 have HG6 := hide hg6
 have HB := hide hb
 rw [← hg6]
 clear hg6 hb
 refine wp_world (fun u => u.heap[g6]? = some (.cells #[.int .i64 3, .int .i64 e, .int .i64 s, .int .i64 q, .string b] 41 (0, 0)) ∧ Below w.heap.size w u) ?_ ?_
 ·rw [unhide HG6]
  exact ⟨heap_alloc_new _ _, (unhide HB).alloc (unhide HB).size _⟩
 clear HG6 HB c0 HDC HID
 rintro u ⟨h6, hbu⟩
 have d11 := (hbu.cell (p := ⟨p, 11, none⟩) hpl).trans c11
 have H6 := hide h6
 have HU := hide hbu
 clear h6 hbu
 go_wp2
 go_loopw [9, 28] (fun _ i wr => ∃ j : Nat, j ≤ 1 ∧ i = .int .i64 j ∧ wr.heap[g6]? = some (.cells #[.int .i64 3, .int .i64 e, .int .i64 s, .int .i64 q, .string b] 41 (0, 0)) ∧ Below w.heap.size w wr) (fun _ i _ => 3 - (intOf i).toNat)
 case atStart => exact ⟨0, by omega, rfl, unhide H6, unhide HU⟩
 case round =>
  obtain ⟨j, hj, rfl, h6, hb⟩ := hrel
  clear H6 HU d11
  have s0 := (hb.cell (p := ⟨g, o, none⟩) hgl).trans r0
  have s1 := (hb.cell (p := ⟨g, o + 1, none⟩) hgl).trans r1
  have s2 := (hb.cell (p := ⟨g, o + 2, none⟩) hgl).trans r2
  have s3 := (hb.cell (p := ⟨g, o + 2 + 1, none⟩) hgl).trans r3
  have y0 := blk_cell (i := 0) h6
  have y1 := blk_cell (i := 1) h6
  have y2 := blk_cell (i := 2) h6
  have y3 := blk_cell (i := 3) h6
  have y4 := blk_cell (i := 4) h6
  simp at y0 y1 y2 y3 y4
  have h6l := lt_of_block h6
  have HH6 := hide h6
  have HBB := hide hb
  have hnext : ∀ ob, (wr.alloc ob).heap[g6]? = some (.cells #[.int .i64 3, .int .i64 e, .int .i64 s, .int .i64 q, .string b] 41 (0, 0)) ∧ Below w.heap.size w (wr.alloc ob) := fun ob => ⟨(hao _ _ h6l).trans h6, hb.alloc hb.size _⟩
  have HNX := hide hnext
  clear h6 hb hnext r0 r1 r2 r3
  have hsf1 : ∀ (ad : Addr) (m : Mode) (z : World), (store ad (.func (.func 109) #[.pointer (some ⟨p, 0, none⟩)] #[]) m).run Tryz.prog z = stored Tryz.prog z ad (.func (.func 109) #[.pointer (some ⟨p, 0, none⟩)] #[]) m := fun ad m z => run_store _ _ _ _ _ rfl
  have hsf2 : ∀ (ad : Addr) (m : Mode) (z : World), (store ad (.func (.func 110) #[.pointer (some ⟨p, 0, none⟩)] #[]) m).run Tryz.prog z = stored Tryz.prog z ad (.func (.func 110) #[.pointer (some ⟨p, 0, none⟩)] #[]) m := fun ad m z => run_store _ _ _ _ _ rfl
  rcases (show j = 0 ∨ j = 1 by omega) with rfl | rfl
  focus
   go_wp2
   exact ⟨⟨1, by omega, by go_num, (unhide HNX) _⟩, by simp [intOf]⟩
  focus
   go_wp2_with (go_at_call 98; refine (unhide (hCC _ (by first | exact ((unhide HNX) _).2 | exact (unhide HBB)))).mono ?_; rintro r z ⟨lv, fs, x, rfl, k1, k2, k3⟩; replace k1 := hide k1; replace k2 := hide k2; replace k3 := hide k3)
   go_ret2
   exact ⟨lv, fs, x, rfl, hbeh (unhide k1) (by first | exact ((unhide HNX) _).2 | exact (unhide HBB)), unhide k2, unhide k3⟩
set_option maxRecDepth 100000 in
set_option maxHeartbeats 4000000 in
theorem sinkDeliverN_R {w : World} {p : Nat} {a : Mod.Sk} {R : World → World → Prop} {sh : Nat → List (Nat × Value)} {st : Mod.Stv} {c : Sv} (H : PkAt w p a.epoch a.logs sh st c) (hs : st.dk.dead = false) (hR : R w w) (bs : Value) (k e s q : Int) (b : ByteArray) (hk1 : ¬ k = 1) (hk3 : ¬ k = 3)
  (hDec : ∀ y, Below w.heap.size w y → Calls Tryz.prog 54 #[bs] y fun r z => r = .returned (.tuple #[.agg #[.int .i64 k, .int .i64 e, .int .i64 s, .int .i64 q, .string b], .int .i64 0]) ∧ Below y.heap.size y z) :
  Calls Tryz.prog 56 #[ptrTo p, bs] w fun r z => DlR R w z 0 r [] := by
 have c0 : w.cell? ⟨p, 0, none⟩ = some (ptrTo c.s) := by rw [blk_cell H.ks.blk, H.ks.a0]
 have hID := storeIsDead_any H.stt
 rw [hs] at hID
 have HID := hide hID
 have HDC := hide (hDec w (Below.refl _ _))
 have e1 : ((1 : Int) == k) = false := by simp; omega
 have e3 : ((3 : Int) == k) = false := by simp; omega
 obtain ⟨ad, cap, hrv, hcap1, hcap2, hcells⟩ := H.rl.shape
 obtain ⟨g, o, rfl, hcl⟩ := hcells (by omega)
 have r0 : w.cell? ⟨g, o, none⟩ = some (.int .i64 1) := by have := hcl 0 (by omega); simpa [rulesOf] using this
 have r1 : w.cell? ⟨g, o + 1, none⟩ = some (.func (.func 109) #[ptrTo p] #[]) := by have := hcl 1 (by omega); simpa [rulesOf] using this
 have r2 : w.cell? ⟨g, o + 2, none⟩ = some (.int .i64 3) := by have := hcl 2 (by omega); simpa [rulesOf] using this
 have r3 : w.cell? ⟨g, o + 2 + 1, none⟩ = some (.func (.func 110) #[ptrTo p] #[]) := by have := hcl 3 (by omega); simpa [rulesOf] using this
 have c11 : w.cell? ⟨p, 11, none⟩ = some (.slice (some ⟨g, o, none⟩) 2 cap) := by rw [blk_cell H.ks.blk, H.ks.ar, hrv]
 have hgl : g < w.heap.size := World.block_lt_of_cell? _ _ r0
 have hpl := lt_of_block H.ks.blk
 have HST := hide hR
 clear H hID hDec hcl hcells hrv hR
 unfold ptrTo at *
 go_enter Tryz.func56, Tryz.ntmps56
 go_upto_region 4 with (first | (go_at_call 86; refine (unhide HID).mono ?_; rintro r y ⟨rfl, hyw⟩; obtain rfl : w = y := hyw.symm) | (go_at_call 54; refine (unhide HDC).mono ?_; rintro r y ⟨rfl, hb⟩))
 obtain ⟨g6, hg6⟩ : ∃ g6, g6 = y.heap.size := ⟨_, rfl⟩
 have hgw : w.heap.size ≤ g6 := by have := hb.size; omega
 have HG6 := hide hg6
 have HB := hide hb
 rw [← hg6]
 clear hg6 hb
 refine wp_world (fun u => u.heap[g6]? = some (.cells #[.int .i64 k, .int .i64 e, .int .i64 s, .int .i64 q, .string b] 41 (0, 0)) ∧ Below w.heap.size w u) ?_ ?_
 ·rw [unhide HG6]
  exact ⟨heap_alloc_new _ _, (unhide HB).alloc (unhide HB).size _⟩
 clear HG6 HB c0 HDC HID
 rintro u ⟨h6, hbu⟩
 have d11 := (hbu.cell (p := ⟨p, 11, none⟩) hpl).trans c11
 have H6 := hide h6
 have HU := hide hbu
 clear h6 hbu
 go_wp2
 go_loopw [9, 28] (fun _ i wr => ∃ j : Nat, j ≤ 2 ∧ i = .int .i64 j ∧ wr.heap[g6]? = some (.cells #[.int .i64 k, .int .i64 e, .int .i64 s, .int .i64 q, .string b] 41 (0, 0)) ∧ Below w.heap.size w wr) (fun _ i _ => 3 - (intOf i).toNat)
 case atStart => exact ⟨0, by omega, rfl, unhide H6, unhide HU⟩
 case round =>
  obtain ⟨j, hj, rfl, h6, hb⟩ := hrel
  clear H6 HU d11
  have s0 := (hb.cell (p := ⟨g, o, none⟩) hgl).trans r0
  have s1 := (hb.cell (p := ⟨g, o + 1, none⟩) hgl).trans r1
  have s2 := (hb.cell (p := ⟨g, o + 2, none⟩) hgl).trans r2
  have s3 := (hb.cell (p := ⟨g, o + 2 + 1, none⟩) hgl).trans r3
  have y0 := blk_cell (i := 0) h6
  have y1 := blk_cell (i := 1) h6
  have y2 := blk_cell (i := 2) h6
  have y3 := blk_cell (i := 3) h6
  have y4 := blk_cell (i := 4) h6
  simp at y0 y1 y2 y3 y4
  have h6l := lt_of_block h6
  have HH6 := hide h6
  have HBB := hide hb
  have hnext : ∀ ob, (wr.alloc ob).heap[g6]? = some (.cells #[.int .i64 k, .int .i64 e, .int .i64 s, .int .i64 q, .string b] 41 (0, 0)) ∧ Below w.heap.size w (wr.alloc ob) := fun ob => ⟨(hao _ _ h6l).trans h6, hb.alloc hb.size _⟩
  have HNX := hide hnext
  clear h6 hb hnext r0 r1 r2 r3
  have hsf1 : ∀ (ad : Addr) (m : Mode) (z : World), (store ad (.func (.func 109) #[.pointer (some ⟨p, 0, none⟩)] #[]) m).run Tryz.prog z = stored Tryz.prog z ad (.func (.func 109) #[.pointer (some ⟨p, 0, none⟩)] #[]) m := fun ad m z => run_store _ _ _ _ _ rfl
  have hsf2 : ∀ (ad : Addr) (m : Mode) (z : World), (store ad (.func (.func 110) #[.pointer (some ⟨p, 0, none⟩)] #[]) m).run Tryz.prog z = stored Tryz.prog z ad (.func (.func 110) #[.pointer (some ⟨p, 0, none⟩)] #[]) m := fun ad m z => run_store _ _ _ _ _ rfl
  rcases (show j = 0 ∨ j = 1 ∨ j = 2 by omega) with rfl | rfl | rfl
  focus
   go_wp2
   exact ⟨⟨1, by omega, by go_num, (unhide HNX) _⟩, by simp [intOf]⟩
  focus
   go_wp2
   exact ⟨⟨2, by omega, by go_num, (unhide HNX) _⟩, by simp [intOf]⟩
  focus
   go_wp2
   go_ret2
   exact ⟨_, _, w, rfl, unhide HST, unhide HBB, framesOut_none _ _⟩
end Go.Proofs.YtamafdcnbcoegaaGreat
namespace Go.Proofs.YtamafdcnbcoegaaGreat
open Go.RowKit
theorem FramesOut.up {B B' : Nat} {z : World} {lv : Value} {fs : List Value} {Fl : List ByteArray} {U : Nat → Prop} (h : FramesOut B z lv fs Fl (fun _ => False)) (hB : B' ≤ B) (hU : ∀ k, U k → k < B) : FramesOut B' z lv fs Fl U := by
 refine ⟨h.len, ownsRow_monoB h.row hB, fun j v hj => ownsRow_monoB (h.each j v hj) hB, h.apart, fun k hk hu => ?_⟩
 have := hU k hu
 rcases hk with hk | hk
 ·have := (World.ownsRow.lt h.row k hk).1
  omega
 ·obtain ⟨j, hj, u, hu2, hk⟩ := hk
  have := (World.ownsRow.lt (h.each j u hu2) k hk).1
  omega
theorem cs_not {w : World} {p e : Nat} {logs : Nat → List ByteArray} {sh : Nat → List (Nat × Value)} {st : Mod.Stv} {c : Sv} (H : PkAt w p e logs sh st c) {v q : Nat} (hb : w.heap[v]? = some (.cells #[ptrTo q] 93 (0, 0))) : ¬ PkU p c v :=
 pk_not_cells H hb (by decide) (by decide) (by decide) (by decide) (by decide) (by decide) (by decide) (by decide)
end Go.Proofs.YtamafdcnbcoegaaGreat
namespace Go.Proofs.YtamafdcnbcoegaaGreat
open Go.RowKit
section
variable {w : World} {p : Nat} {g : Nat → Nat} {free : List Nat} {sh : Nat → List (Nat × Value)} {st : Mod.Stv} {c : Av} {a : Mod.Ag} {pl : Nat → List Nat}
set_option maxRecDepth 100000 in
set_option maxHeartbeats 2000000 in
theorem letGo_same (H : PaAt w p g a.ticks a.welcome a.fenced free sh st c) (X : Nat → Nat) (hX : ∀ i, i < 3 → X i = g i) :
  Calls Tryz.prog 152 #[ptrTo p, .agg #[.int .i64 (X 0), .int .i64 (X 1), .int .i64 (X 2)]] w fun r z => r = .returned (.int .i64 0) ∧ Below w.heap.size w z := by
 have g0 : w.cell? ⟨p, 1, none⟩ = some (.int .i64 (X 0)) := by rw [blk_cell H.ks.blk, hX 0 (by omega)]; exact H.ks.ag 0 (by omega)
 have g1 : w.cell? ⟨p, 2, none⟩ = some (.int .i64 (X 1)) := by rw [blk_cell H.ks.blk, hX 1 (by omega)]; exact H.ks.ag 1 (by omega)
 have g2 : w.cell? ⟨p, 3, none⟩ = some (.int .i64 (X 2)) := by rw [blk_cell H.ks.blk, hX 2 (by omega)]; exact H.ks.ag 2 (by omega)
 have hpl := lt_of_block H.ks.blk
 generalize X 0 = x0 at *
 generalize X 1 = x1 at *
 generalize X 2 = x2 at *
 have hcmp : ∀ z : World, (Op.equalIn 10000 136 (.agg #[.int .i64 x0, .int .i64 x1, .int .i64 x2]) (.agg #[.int .i64 x0, .int .i64 x1, .int .i64 x2])).run Tryz.prog z = .ok true z := fun z => by
  rw [eq_nums]; simp
 clear H hX
 unfold ptrTo
 go_enter Tryz.func152, Tryz.ntmps152
 go_upto_region 1 with fail
 refine wp_world (fun x => x.heap[w.heap.size]? = some (.cells #[.int .i64 x0, .int .i64 x1, .int .i64 x2] 136 (0, 0)) ∧ Below w.heap.size w x) ⟨heap_alloc_new _ _, (Below.refl _ _).alloc (Nat.le_refl _) _⟩ ?_
 rintro x ⟨hb, hB⟩
 have y0 := blk_cell (i := 0) hb
 have y1 := blk_cell (i := 1) hb
 have y2 := blk_cell (i := 2) hb
 simp at y0 y1 y2
 have z0 := (hB.cell (p := ⟨p, 1, none⟩) hpl).trans g0
 have z1 := (hB.cell (p := ⟨p, 2, none⟩) hpl).trans g1
 have z2 := (hB.cell (p := ⟨p, 3, none⟩) hpl).trans g2
 have HB := hide hB
 clear hb hB g0 g1 g2
 go_quiet (fail)
 go_wp2
 go_ret
 exact ⟨rfl, (unhide HB).trans (below_drewN (Below.refl _ _) _ |>.mono (unhide HB).size)⟩
theorem paStep_gone {tk : Nat} {wel fen : Bool} (H : PaAt w p g tk wel fen free sh st c) (X : Nat → Nat) :
  PaStep w (((w.setCell ⟨p, 1, none⟩ (.int .i64 (X 0))).setCell ⟨p, 2, none⟩ (.int .i64 (X 1))).setCell ⟨p, 3, none⟩ (.int .i64 (X 2))) p X tk wel fen free sh st c := by
 have one : ∀ {w : World} {c : Av} {g : Nat → Nat} (i : Nat) (hi : i < 3) (v : Nat), PaAt w p g tk wel fen free sh st c → PaStep w (w.setCell ⟨p, 1 + i, none⟩ (.int .i64 v)) p (fun t => if t = i then v else g t) tk wel fen free sh st c := by
  intro w c g i hi v H
  have hsz := H.ks.sz
  refine paStep_cell H (1 + i) (.int .i64 v) (.inl (by omega)) (fun j hj => ?_) ?_ ?_ ?_
  ·by_cases e : j = i
   ·subst e
    have : 1 + j < c.arr.size := by omega
    simp [this]
   ·rw [Array.getElem?_setIfInBounds_ne (by omega), H.ks.ag j hj, if_neg e]
  ·rw [Array.getElem?_setIfInBounds_ne (by omega)]; exact H.ks.at'
  ·rw [Array.getElem?_setIfInBounds_ne (by omega)]; exact H.ks.aw
  ·rw [Array.getElem?_setIfInBounds_ne (by omega)]; exact H.ks.ae
 have h1 := one 0 (by omega) (X 0) H
 have h2 := h1.trans (fun c' h => one 1 (by omega) (X 1) h)
 have h3 := h2.trans (fun c' h => one 2 (by omega) (X 2) h)
 obtain ⟨c', h, r⟩ := h3
 refine ⟨c', ⟨{ h.ks with ag := fun i hi => ?_ }, h.stt, h.rl, h.len⟩, r⟩
 rw [h.ks.ag i hi]
 obtain rfl | rfl | rfl : i = 0 ∨ i = 1 ∨ i = 2 := by omega
 all_goals simp
end
end Go.Proofs.YtamafdcnbcoegaaGreat
namespace Go.Proofs.YtamafdcnbcoegaaGreat
open Go.RowKit
section
variable {w x : World} {p : Nat} {g : Nat → Nat} {tk : Nat} {wel fen : Bool} {free : List Nat} {sh : Nat → List (Nat × Value)} {st : Mod.Stv} {c : Av} {a : Mod.Ag} {pl : Nat → List Nat}
theorem paStep_fen (H : PaAt w p g tk wel fen free sh st c) (v : Bool) : PaStep w (w.setCell ⟨p, 25, none⟩ (.bool v)) p g tk wel v free sh st c := by
 have hsz := H.ks.sz
 refine paStep_cell H 25 (.bool v) (.inr (by omega)) (fun j hj => ?_) ?_ ?_ ?_
 ·rw [Array.getElem?_setIfInBounds_ne (by omega)]; exact H.ks.ag j hj
 ·rw [Array.getElem?_setIfInBounds_ne (by omega)]; exact H.ks.at'
 ·rw [Array.getElem?_setIfInBounds_ne (by omega)]; exact H.ks.aw
 ·have : 25 < c.arr.size := by omega
  simp [this]
theorem paStep_wel (H : PaAt w p g tk wel fen free sh st c) (v : Bool) : PaStep w (w.setCell ⟨p, 24, none⟩ (.bool v)) p g tk v fen free sh st c := by
 have hsz := H.ks.sz
 refine paStep_cell H 24 (.bool v) (.inr (by omega)) (fun j hj => ?_) ?_ ?_ ?_
 ·rw [Array.getElem?_setIfInBounds_ne (by omega)]; exact H.ks.ag j hj
 ·rw [Array.getElem?_setIfInBounds_ne (by omega)]; exact H.ks.at'
 ·have : 24 < c.arr.size := by omega
  simp [this]
 ·rw [Array.getElem?_setIfInBounds_ne (by omega)]; exact H.ks.ae
theorem paStep_tick (H : PaAt w p g tk wel fen free sh st c) (v : Nat) : PaStep w (w.setCell ⟨p, 23, none⟩ (.int .i64 v)) p g v wel fen free sh st c := by
 have hsz := H.ks.sz
 refine paStep_cell H 23 (.int .i64 v) (.inr (by omega)) (fun j hj => ?_) ?_ ?_ ?_
 ·rw [Array.getElem?_setIfInBounds_ne (by omega)]; exact H.ks.ag j hj
 ·have : 23 < c.arr.size := by omega
  simp [this]
 ·rw [Array.getElem?_setIfInBounds_ne (by omega)]; exact H.ks.aw
 ·rw [Array.getElem?_setIfInBounds_ne (by omega)]; exact H.ks.ae
theorem OnAg.flags {op : Nat} (O : OnAg a op g free sh pl) (tk : Nat) (wel fen : Bool) : OnAg { a with ticks := tk, welcome := wel, fenced := fen } op g free sh pl :=
 ⟨O.ep, O.bs, O.pn, O.kp, O.sn, O.si, O.hd, O.hu, O.hl, O.nd, O.lt, O.sum⟩
end
end Go.Proofs.YtamafdcnbcoegaaGreat
namespace Go.Proofs.YtamafdcnbcoegaaGreat
open Go.RowKit
def clr (sh : Nat → List (Nat × Value)) (j : Nat) (t : Nat) : List (Nat × Value) := if t % 3 ≠ 0 ∧ t < j * 3 then [] else sh t
theorem clr_zero (sh : Nat → List (Nat × Value)) : clr sh 0 = sh := by funext t; unfold clr; rw [if_neg (by omega)]
theorem clr_next (sh : Nat → List (Nat × Value)) (j : Nat) : (fun t => if t = j * 3 + 2 then ([] : List (Nat × Value)) else (fun t => if t = j * 3 + 1 then [] else clr sh j t) t) = clr sh (j + 1) := by
 funext t
 unfold clr
 by_cases h1 : t = j * 3 + 2
 ·rw [if_pos h1, if_pos (by omega)]
 ·rw [if_neg h1]
  show (if t = j * 3 + 1 then ([] : List (Nat × Value)) else _) = _
  by_cases h2 : t = j * 3 + 1
  ·rw [if_pos h2, if_pos (by omega)]
  ·rw [if_neg h2]
   by_cases h3 : t % 3 ≠ 0 ∧ t < j * 3
   ·rw [if_pos h3, if_pos (by omega)]
   ·rw [if_neg h3, if_neg (by omega)]
section
variable {w : World} {p : Nat} {g : Nat → Nat} {free : List Nat} {sh : Nat → List (Nat × Value)} {st : Mod.Stv} {c : Av} {a : Mod.Ag} {op : Nat} {pl : Nat → List Nat}
theorem onAg_fresh (O : OnAg a op g free sh pl) : OnAg { a with welcome := true, fl := Mod.fresh a.fl 3 } op g free (clr sh 3) pl := by
 have hfl : ∀ i, i < 3 → Mod.fresh a.fl 3 i = { a.fl i with kept := (a.fl i).kept.map fun r => (r.1, 0), held := [] } := fun i hi => by unfold Mod.fresh; rw [if_pos hi]
 refine ⟨O.ep, fun i hi => ?_, fun i hi => ?_, fun i hi => ?_, fun i hi n => ?_, fun i hi => ?_, fun i hi n => ?_, fun i hi => ?_, fun i hi => ?_, O.nd, O.lt, ?_⟩
 ·show g i = (Mod.fresh a.fl 3 i).base
  rw [hfl i hi]; exact O.bs i hi
 ·show (pl i).length = (Mod.fresh a.fl 3 i).kept.length
  rw [hfl i hi]; simpa using O.pn i hi
 ·show clr sh 3 (i * 3) = keptL (Mod.fresh a.fl 3 i).base (Mod.fresh a.fl 3 i).kept (pl i)
  unfold clr
  rw [if_neg (by omega), hfl i hi, O.kp i hi]
  exact keptL_same _ _ _ _ (by simp)
 ·show look (clr sh 3 (i * 3 + 1)) _ = sentF (Mod.fresh a.fl 3 i) n
  unfold clr
  rw [if_pos (by omega), hfl i hi]
  unfold sentF
  simp only
  split
  ·rfl
  ·cases h : ((a.fl i).kept.map fun r => (r.1, 0))[n - (a.fl i).base - 1]? with
   | none => rfl
   | some x =>
    rw [List.getElem?_map] at h
    cases hk : (a.fl i).kept[n - (a.fl i).base - 1]? with
    | none => rw [hk] at h; cases h
    | some y => rw [hk] at h; cases h; rfl
 ·show AreI (clr sh 3 (i * 3 + 1))
  unfold clr
  rw [if_pos (by omega)]
  intro x hx; cases hx
 ·show (look (clr sh 3 (i * 3 + 2)) _).isSome = (Mod.fresh a.fl 3 i).held.contains n
  unfold clr
  rw [if_pos (by omega), hfl i hi]
  rfl
 ·show AreU (clr sh 3 (i * 3 + 2))
  unfold clr
  rw [if_pos (by omega)]
  intro x hx; cases hx
 ·show (clr sh 3 (i * 3 + 2)).length ≤ 3
  unfold clr
  rw [if_pos (by omega)]
  simp
 ·have h := O.sum
  have h2 : Mod.Ag.room { a with welcome := true, fl := Mod.fresh a.fl 3 } = a.room := by
   simp [Mod.Ag.room, Mod.fresh]
  rw [h2]
  exact h
theorem wel_max (b l : Nat) (n : Int) : max (b : Int) (min n ((b + l : Nat) : Int)) = ((b + min (n - b).toNat l : Nat) : Int) := by omega
set_option maxRecDepth 100000 in
set_option maxHeartbeats 4000000 in
theorem obeyWelcome_no (H : PaAt w p g a.ticks a.welcome a.fenced free sh st c) (O : OnAg a st.opening g free sh pl) (e : Nat) (s q : Int) (b : ByteArray) (he : e ≠ a.epoch) :
  Calls Tryz.prog 104 #[ptrTo p, .agg #[.int .i64 2, .int .i64 e, .int .i64 s, .int .i64 q, .string b]] w fun r z => r = .returned (.int .i64 0) ∧ Below w.heap.size w z := by
 have HEP := fun z (hz : Below w.heap.size w z) => hide (agEpoch_any (H.below hz))
 obtain ⟨ep, hep⟩ : ∃ ep, ep = a.epoch := ⟨_, rfl⟩
 have hop : st.opening = ep := by rw [hep]; exact O.ep
 rw [hop] at HEP
 rw [← hep] at he
 have DD := hide (boxAt_new w #[.int .i64 2, .int .i64 e, .int .i64 s, .int .i64 q, .string b])
 have hne : ((e : Int) != (ep : Int)) = true := by simp; omega
 clear H O hop hep
 unfold ptrTo at *
 go_enter Tryz.func104, Tryz.ntmps104
 go_upto_region 1 with fail
 refine wp_world (BoxAt w #[.int .i64 2, .int .i64 e, .int .i64 s, .int .i64 q, .string b]) (unhide DD) ?_
 clear DD
 intro x X
 have y1 := blk_cell (i := 1) X.box
 simp at y1
 have HE1 := fun n => hide (unhide (HEP (x.drewN n) (X.drewN n).bel))
 have HX := hide X
 clear X
 go_quiet (first | (go_at_call 66; exact Calls.quiet_of_same (unhide (HE1 _))))
 go_wp2
 go_ret
 exact ⟨rfl, ((unhide HX).drewN _).bel⟩
end
end Go.Proofs.YtamafdcnbcoegaaGreat
namespace Go.Proofs.YtamafdcnbcoegaaGreat
open Go.RowKit
theorem snoc_ind {P : List Nat → Prop} (h0 : P []) (h1 : ∀ l n, P l → P (l ++ [n])) (l : List Nat) : P l := by
 have H : ∀ (k : Nat) (l : List Nat), l.length = k → P l := by
  intro k
  induction k with
  | zero => intro l hl; rw [List.length_eq_zero_iff.1 hl]; exact h0
  | succ k ih =>
   intro l hl
   rcases List.eq_nil_or_concat l with rfl | ⟨l', n, rfl⟩
   ·simp at hl
   ·rw [List.concat_eq_append]
    exact h1 _ _ (ih _ (by simpa using hl))
 exact H _ l rfl
theorem heldF_snoc (l : List Nat) (n : Nat) : (l ++ [n]).foldl (fun l n => putL l n recU) [] = putL (l.foldl (fun l n => putL l n recU) []) n recU := by simp
theorem heldF_areU : ∀ (l : List Nat), AreU (l.foldl (fun l n => putL l n recU) []) := by
 refine snoc_ind (fun x hx => by cases hx) (fun l n ih => ?_)
 ·rw [heldF_snoc]
  intro x hx
  rcases mem_putL hx with rfl | hx
  ·rfl
  ·exact ih x hx
theorem heldF_len : ∀ (l : List Nat), (l.foldl (fun l n => putL l n recU) []).length ≤ l.length := by
 refine snoc_ind (by simp) (fun l n ih => ?_)
 ·rw [heldF_snoc]
  have := length_putL_le (l.foldl (fun l n => putL l n recU) []) n recU
  simp
  omega
theorem heldF_look : ∀ (l : List Nat) (n : Nat), (look (l.foldl (fun l n => putL l n recU) []) (n : Int)).isSome = l.contains n := by
 refine snoc_ind (fun n => rfl) (fun l m ih => ?_)
 ·intro n
  rw [heldF_snoc, look_putL]
  unfold putF
  by_cases h : (n : Int) = (m : Int)
  ·have h' : n = m := by omega
   subst h'
   rw [if_pos rfl]
   simp
  ·rw [if_neg h, ih n]
   have h' : ¬ n = m := by omega
   simp [h']
section
variable {g : Nat → Nat} {free : List Nat} {sh : Nat → List (Nat × Value)} {a : Mod.Ag} {op : Nat} {pl : Nat → List Nat}
theorem onAg_held (O : OnAg a op g free sh pl) {s : Nat} (hs : s < 3) (l : List Nat) (hl : l.length ≤ 3) :
  OnAg { a with fl := Mod.upd a.fl s { a.fl s with held := l } } op g free (fun t => if t = s * 3 + 2 then l.foldl (fun l n => putL l n recU) [] else sh t) pl := by
 have hfl : ∀ j, Mod.upd a.fl s { a.fl s with held := l } j = if j = s then { a.fl s with held := l } else a.fl j := fun j => rfl
 refine ⟨O.ep, fun j hj => ?_, fun j hj => ?_, fun j hj => ?_, fun j hj n => ?_, fun j hj => ?_, fun j hj n => ?_, fun j hj => ?_, fun j hj => ?_, O.nd, O.lt, ?_⟩
 ·show g j = (Mod.upd a.fl s { a.fl s with held := l } j).base
  rw [hfl]
  by_cases e : j = s
  ·subst e; rw [if_pos rfl]; exact O.bs j hj
  ·rw [if_neg e]; exact O.bs j hj
 ·show (pl j).length = (Mod.upd a.fl s { a.fl s with held := l } j).kept.length
  rw [hfl]
  by_cases e : j = s
  ·subst e; rw [if_pos rfl]; exact O.pn j hj
  ·rw [if_neg e]; exact O.pn j hj
 ·show (if j * 3 = s * 3 + 2 then _ else sh (j * 3)) = keptL (Mod.upd a.fl s { a.fl s with held := l } j).base (Mod.upd a.fl s { a.fl s with held := l } j).kept (pl j)
  rw [if_neg (by omega), hfl]
  by_cases e : j = s
  ·subst e; rw [if_pos rfl]; exact O.kp j hj
  ·rw [if_neg e]; exact O.kp j hj
 ·show look (if j * 3 + 1 = s * 3 + 2 then _ else sh (j * 3 + 1)) _ = sentF (Mod.upd a.fl s { a.fl s with held := l } j) n
  rw [if_neg (by omega), hfl]
  by_cases e : j = s
  ·subst e; rw [if_pos rfl]; exact O.sn j hj n
  ·rw [if_neg e]; exact O.sn j hj n
 ·show AreI (if j * 3 + 1 = s * 3 + 2 then _ else sh (j * 3 + 1))
  rw [if_neg (by omega)]; exact O.si j hj
 ·show (look (if j * 3 + 2 = s * 3 + 2 then _ else sh (j * 3 + 2)) _).isSome = (Mod.upd a.fl s { a.fl s with held := l } j).held.contains n
  rw [hfl]
  by_cases e : j = s
  ·subst e; rw [if_pos rfl, if_pos rfl]; exact heldF_look l n
  ·rw [if_neg (by omega), if_neg e]; exact O.hd j hj n
 ·show AreU (if j * 3 + 2 = s * 3 + 2 then _ else sh (j * 3 + 2))
  by_cases e : j = s
  ·subst e; rw [if_pos rfl]; exact heldF_areU l
  ·rw [if_neg (by omega)]; exact O.hu j hj
 ·show (if j * 3 + 2 = s * 3 + 2 then _ else sh (j * 3 + 2)).length ≤ 3
  by_cases e : j = s
  ·subst e; rw [if_pos rfl]; exact Nat.le_trans (heldF_len l) hl
  ·rw [if_neg (by omega)]; exact O.hl j hj
 ·have h := O.sum
  obtain ⟨f2, hf2⟩ : ∃ f2, f2 = ({ a.fl s with held := l } : Mod.Flow) := ⟨_, rfl⟩
  have hk : f2.kept.length = (a.fl s).kept.length := by rw [hf2]
  have h2 := room_upd (a := a) hs f2
  rw [← hf2]
  omega
end
theorem body0 {b : ByteArray} (h : 0 < b.size) : b[0].toNat = (b.data.toList.getD 0 0).toNat := by
 have h' : 0 < b.data.size := h
 simp [List.getD_eq_getElem?_getD, Array.getElem?_eq_getElem h', ByteArray.getElem_eq_getElem_data]
end Go.Proofs.YtamafdcnbcoegaaGreat
namespace Go.Proofs.YtamafdcnbcoegaaGreat
open Go.RowKit
section
variable {w : World} {p : Nat} {g : Nat → Nat} {free : List Nat} {sh : Nat → List (Nat × Value)} {st : Mod.Stv} {c : Av} {a : Mod.Ag} {pl : Nat → List Nat}
set_option maxRecDepth 100000 in
set_option maxHeartbeats 4000000 in
theorem obeyAck_skip (H : PaAt w p g a.ticks a.welcome a.fenced free sh st c) (O : OnAg a st.opening g free sh pl) (e : Nat) (s q : Int) (b : ByteArray) (he : e ≠ a.epoch ∨ a.welcome = false) :
  Calls Tryz.prog 105 #[ptrTo p, .agg #[.int .i64 4, .int .i64 e, .int .i64 s, .int .i64 q, .string b]] w fun r z => r = .returned (.int .i64 0) ∧ Below w.heap.size w z := by
 have HEP := fun z (hz : Below w.heap.size w z) => hide (agEpoch_any (H.below hz))
 have hpl := lt_of_block H.ks.blk
 have c24 : w.cell? ⟨p, 24, none⟩ = some (.bool a.welcome) := by rw [blk_cell H.ks.blk, H.ks.aw]
 obtain ⟨ep, hep⟩ : ∃ ep, ep = a.epoch := ⟨_, rfl⟩
 have hop : st.opening = ep := by rw [hep]; exact O.ep
 rw [hop] at HEP
 rw [← hep] at he
 have DD := hide (boxAt_new w #[.int .i64 4, .int .i64 e, .int .i64 s, .int .i64 q, .string b])
 generalize a.welcome = wel at *
 clear H O hop hep
 unfold ptrTo at *
 go_enter Tryz.func105, Tryz.ntmps105
 go_upto_region 1 with fail
 refine wp_world (BoxAt w #[.int .i64 4, .int .i64 e, .int .i64 s, .int .i64 q, .string b]) (unhide DD) ?_
 clear DD
 intro x X
 have y1 := blk_cell (i := 1) X.box
 simp at y1
 have d24 := (X.bel.cell (p := ⟨p, 24, none⟩) hpl).trans c24
 have HE1 := fun n => hide (unhide (HEP (x.drewN n) (X.drewN n).bel))
 have HX := hide X
 clear X c24
 by_cases hne : e = ep
 ·have hwf : wel = false := he.resolve_left (fun h => h hne)
  subst hwf
  have hn : ((e : Int) != (ep : Int)) = false := by simp [hne]
  go_quiet (first | (go_at_call 66; exact Calls.quiet_of_same (unhide (HE1 _))))
  go_wp2
  go_ret
  exact ⟨rfl, ((unhide HX).drewN _).bel⟩
 ·have hn : ((e : Int) != (ep : Int)) = true := by simp; omega
  go_quiet (first | (go_at_call 66; exact Calls.quiet_of_same (unhide (HE1 _))))
  go_wp2
  go_ret
  exact ⟨rfl, ((unhide HX).drewN _).bel⟩
end
end Go.Proofs.YtamafdcnbcoegaaGreat
namespace Go.Proofs.YtamafdcnbcoegaaGreat
open Go.RowKit
section
variable {w : World} {p : Nat} {g0 : Nat → Nat} {free : List Nat} {sh : Nat → List (Nat × Value)} {st : Mod.Stv} {c : Av} {a a2 : Mod.Ag} {pl : Nat → List Nat}
end
theorem agSays_yes {a : Mod.Ag} {l : List UInt8} (hr : Wire.reads l = true) {k : Int} {e s q : Nat} {b : ByteArray} (h1 : Wire.kindOf l = k) (h2 : Wire.epochOf l = e) (h3 : Wire.streamOf l = s) (h4 : Wire.seqOf l = q) (h5 : Wire.bodyOf l = b) :
  agSays a l = (0, a.deliver k e s q b) := by
 unfold agSays
 rw [hr, h1, h2, h3, h4, h5]
 rfl
theorem agSays_no {a : Mod.Ag} {l : List UInt8} (hr : Wire.reads l = false) : agSays a l = (1, a) := by
 unfold agSays
 rw [hr]
 rfl
theorem reads_proper {l : List UInt8} (hr : Wire.reads l = true) : Wire.proper (Wire.kindOf l) (Wire.epochOf l) (Wire.streamOf l) (Wire.seqOf l) (Wire.bodyOf l) = true := by
 unfold Wire.reads at hr
 rw [Bool.and_eq_true] at hr
 exact hr.2
section
variable {w : World} {p : Nat} {g0 : Nat → Nat} {free : List Nat} {sh : Nat → List (Nat × Value)} {st : Mod.Stv} {c : Av} {a : Mod.Ag} {pl : Nat → List Nat}
end
end Go.Proofs.YtamafdcnbcoegaaGreat
namespace Go.Proofs.YtamafdcnbcoegaaGreat
open Go.RowKit
attribute [local go_sem] Oper.semAt_some
section
variable {w : World} {p : Nat} {g : Nat → Nat} {free : List Nat} {sh : Nat → List (Nat × Value)} {st : Mod.Stv} {c : Av} {a : Mod.Ag} {pl : Nat → List Nat}
set_option maxRecDepth 100000 in
set_option maxHeartbeats 4000000 in
theorem agSpool_in (H : PaAt w p g a.ticks a.welcome a.fenced free sh st c) (hs : Sound st) (O : OnAg a st.opening g free sh pl) (i : Nat) (hi3 : i < 3) :
  Calls Tryz.prog 55 #[ptrTo p, .int .i64 i] w fun r z => ∃ v, r = .returned v ∧ z.ownsRow w.heap.size 9 1 v (a.spool i).length (strs (a.spool i)) ∧ Below w.heap.size w z := by
 have c0 : w.cell? ⟨p, 0, none⟩ = some (ptrTo c.s) := by rw [blk_cell H.ks.blk, H.ks.a0]
 have hID := storeIsDead_any H.stt
 rw [hs.1] at hID
 have HID := hide hID
 have hIS := isStream_any (i : Int) w
 rw [show Wire.isStr (i : Int) = true by simp [Wire.isStr]; omega] at hIS
 have HIS := hide hIS
 have hpl := lt_of_block H.ks.blk
 have HALL := fun y (hy : Below w.heap.size w y) => hide (allA_any (H.below hy).ks.blk (H.ks.an (i * 3) (by omega)) ((H.below hy).ks.shs (i * 3) (by omega)))
 rw [show 4 + i * 3 * 2 = 4 + i * 6 by omega] at HALL
 have hlen : (sh (i * 3)).length = (a.spool i).length := by
  rw [O.kp i hi3, keptL_length _ _ _ (O.pn i hi3)]
  simp [Mod.Ag.spool]
 have hi0 : (0 : Int) ≤ (i : Int) := by omega
 have hi3' : (i : Int) < 3 := by omega
 have hrec : ∀ k (hk : k < (sh (i * 3)).length), ∃ (bk : ByteArray) (q : Nat), (sh (i * 3))[k].2 = recA bk q ∧ (a.spool i)[k]? = some bk := by
  intro k hk
  have hk2 : k < (a.fl i).kept.length := by rw [hlen] at hk; simpa [Mod.Ag.spool] using hk
  have h1 := keptL_get (a.fl i).base (a.fl i).kept (pl i) k (O.pn i hi3) hk2
  rw [← O.kp i hi3, List.getElem?_eq_getElem hk] at h1
  injection h1 with h1
  exact ⟨_, _, by rw [h1], by simp [Mod.Ag.spool, List.getElem?_eq_getElem hk2]⟩
 have hare : AreA (sh (i * 3)) := by rw [O.kp i hi3]; exact keptL_are _ _ _
 have hsm : (a.spool i).length ≤ 24 := by
  have h1 := O.sum
  have h2 := room_le (a := a) hi3
  simp [Mod.Ag.spool]; omega
 have HSH := fun y (hy : Below w.heap.size w y) => hide ((H.below hy).ks.shs (i * 3) (by omega))
 have HN : ∀ y (hy : Below w.heap.size w y), Hid (y.cell? ⟨p, 4 + i * 6, none⟩ = some (c.nv (i * 3)) ∧ y.cell? ⟨p, 4 + i * 6 + 1, none⟩ = some (c.mv (i * 3))) := fun y hy => hide ⟨by
  rw [blk_cell (H.below hy).ks.blk, show 4 + i * 6 = 4 + i * 3 * 2 by omega, H.ks.an (i * 3) (by omega)], by
  rw [blk_cell (H.below hy).ks.blk, show 4 + i * 6 + 1 = 4 + i * 3 * 2 + 1 by omega, H.ks.am (i * 3) (by omega)]⟩
 obtain ⟨L, hL⟩ : ∃ L, L = sh (i * 3) := ⟨_, rfl⟩
 obtain ⟨nv, hnv⟩ : ∃ v, v = c.nv (i * 3) := ⟨_, rfl⟩
 obtain ⟨mv, hmv⟩ : ∃ v, v = c.mv (i * 3) := ⟨_, rfl⟩
 obtain ⟨SP, hSP⟩ : ∃ SP, SP = a.spool i := ⟨_, rfl⟩
 rw [← hnv, ← hmv] at HSH HN
 rw [← hL] at HSH HALL hrec hare hlen
 rw [← hSP] at hrec hlen hsm ⊢
 have HR := hide hrec
 have HLN := hide hlen
 clear H O hID hlen hrec hL hnv hmv hSP hIS
 unfold ptrTo at *
 refine callsIn_wide.1 (callsIn_of_wp_marks (n := 5) Tryz.func55 rfl trivial ?_ rfl)
 refine wpIn_wide.2 ?_
 simp only [Tryz.ntmps55, List.size_toArray, List.length_cons, List.length_nil, Nat.reduceAdd, Nat.reduceSub, Array.replicate_succ, Array.replicate_zero, List.push_toArray, List.append_toArray, List.nil_append, List.cons_append]
 go_upto_region 4 with (first | (go_at_call 87; refine (unhide HIS).mono ?_; rintro r y ⟨rfl, hyw⟩; obtain rfl : w = y := hyw.symm) | (go_at_call 86; refine (unhide HID).mono ?_; rintro r y ⟨rfl, hyw⟩; obtain rfl : w = y := hyw.symm))
 obtain ⟨g5, hg5⟩ : ∃ g5, g5 = w.heap.size := ⟨_, rfl⟩
 have HG5 := hide hg5
 rw [← hg5]
 refine wp_world (fun x => x.heap[g5]? = some (.cells #[.slice none 0 0] 45 (0, 0)) ∧ Below g5 w x ∧ x.heap.size = g5 + 1) ?_ ?_
 ·rw [hg5]
  exact ⟨heap_alloc_new _ _, (Below.refl _ _).alloc (Nat.le_refl _) _, by simp⟩
 rintro x ⟨h5, hb, hsz⟩
 have HA := hide (unhide (HALL x (by rw [← hg5]; exact hb)))
 have HX := hide (And.intro h5 (And.intro hb hsz))
 clear hg5 h5 hb hsz HALL
 go_wp2_with (go_at_call 97; refine (unhide HA).mono ?_; rintro r y ⟨rfl, hy⟩)
 clear HA
 have hD : y.heap.size = g5 + 3 := by rw [hy]; simp [boxed2, (unhide HX).2.2]
 have hx : x.heap.size = g5 + 1 := (unhide HX).2.2
 have hy0 : y.heap[g5]? = some (.cells #[.slice none 0 0] 45 (0, 0)) := by
  rw [hy]
  unfold boxed2
  rw [hao _ _ (by simp; omega), hao _ _ (by omega)]
  exact (unhide HX).1
 have hy1 : y.heap[g5 + 1]? = some (.cells #[.pointer (some ⟨p, 4 + i * 6, none⟩)] 209 (0, 0)) := by
  rw [hy]
  unfold boxed2
  rw [hao _ _ (by simp; omega), ← hx]
  exact heap_alloc_new _ _
 have hy2 : y.heap[g5 + 2]? = some (.cells #[.int .i64 L.length] 3 (0, 0)) := by
  rw [hy]
  unfold boxed2
  have := heap_alloc_new (x.alloc (.cells #[.pointer (some ⟨p, 4 + i * 6, none⟩)] 209)) (.cells #[.int .i64 L.length] 3)
  rw [World.size_alloc, hx] at this
  exact this
 have hby : Below g5 w y := by
  rw [hy]
  unfold boxed2
  exact ((unhide HX).2.1.alloc (by omega) _).alloc (by simp; omega) _
 rw [← hy, hx]
 clear hy hx HX
 refine wpIn_wide.1 (range_first (n := 5) (b := g5 + 1) (p := p) (o := 4 + i * 6) (m := L.length) nv mv L hare rfl rfl (fun k W => (∃ v, W.heap[g5]? = some (.cells #[v] 45 (0, 0)) ∧ W.ownsRow (g5 + 5) 9 1 v k (strs (SP.take k))) ∧ W.heap[g5 + 1]? = some (.cells #[.pointer (some ⟨p, 4 + i * 6, none⟩)] 209 (0, 0)) ∧ W.heap[g5 + 2]? = some (.cells #[.int .i64 L.length] 3 (0, 0)) ∧ Below g5 w W ∧ g5 + 5 ≤ W.heap.size) ?_ ?_ ?_ ?_ ?_ ?_)
 ·rintro k W W' ⟨⟨v, h5, hr⟩, h1, h2, hb, hz⟩ hS
  rw [hD] at hS
  have hq := fun k (h : k ≠ g5 + 3) (h' : k ≠ g5 + 4) => hS.rest k h (by omega)
  refine ⟨⟨v, (hq g5 (by omega) (by omega)).trans h5, ownsRow_keep hr (fun g hg => ?_)⟩, (hq _ (by omega) (by omega)).trans h1, (hq _ (by omega) (by omega)).trans h2, ⟨hS.os.trans hb.os, hS.tape.trans hb.tape, hS.output.trans hb.output, by rw [hS.size]; exact hb.size, fun k hk => (hq k (by omega) (by omega)).trans (hb.block k hk)⟩, by rw [hS.size]; exact hz⟩
  have := (World.ownsRow.lt hr g hg).1
  exact hq g (by omega) (by omega)
 ·rintro k W ⟨_, h1, h2, hb, _⟩
  have hbw : Below w.heap.size w W := by rw [← unhide HG5]; exact hb
  exact ⟨blk_cell h1, blk_cell h2, (unhide (HN W hbw)).1, (unhide (HN W hbw)).2, unhide (HSH W hbw)⟩
 ·intro W hbW hszW
  have hk := fun k (hk : k < y.heap.size) => hbW.block k hk
  exact ⟨⟨_, (hk g5 (by omega)).trans hy0, World.ownsRow_nil _ _ _ _⟩, (hk _ (by omega)).trans hy1, (hk _ (by omega)).trans hy2, hby.trans (hbW.mono (by omega)), by omega⟩
 ·intro k hk W hkm hI hle
  rw [hD] at hle ⊢
  obtain ⟨bk, q, hL2, hsp⟩ := (unhide HR) k hk
  rw [hL2]
  obtain ⟨⟨v, h5, hr⟩, h1, h2, hb, hz⟩ := hI
  generalize L[k].1 = nk at *
  have htake : SP.take (k + 1) = SP.take k ++ [bk] := by rw [List.take_add_one, hsp]; rfl
  have hk24 : k < 24 := by have := unhide HLN; omega
  have HT := hide htake
  have HI := hide (And.intro h5 (And.intro hr (And.intro h1 (And.intro h2 (And.intro hb hz)))))
  clear h5 hr h1 h2 hb hz htake hsp hy0 hy1 hy2 hby hL2 hkm hk
  unfold recA
  obtain ⟨g7, hg7⟩ : ∃ g7, g7 = W.heap.size := ⟨_, rfl⟩
  have hg7' : g5 + 5 ≤ g7 := by omega
  have HG7 := hide hg7
  gi_wp2
  refine ⟨⟨hao _ _ (by omega), hao _ _ (by omega)⟩, ?_⟩
  intro W2 hS
  obtain ⟨h5, hr, h1, h2, hb, hz⟩ := unhide HI
  have hq : ∀ j, j ≠ g5 + 3 → j ≠ g5 + 4 → j < W.heap.size → W2.heap[j]? = W.heap[j]? := fun j h h' hl => (hS.rest j h (by omega)).trans (hao _ _ hl)
  have h7 : W2.heap[g7]? = some (.cells #[.string bk, .int .i64 q] 158 (0, 0)) := by
   rw [hS.rest g7 (by omega) (by omega), hg7]
   exact heap_alloc_new _ _
  have hz2 : W2.heap.size = g7 + 1 := by rw [hS.size, hg7]; simp
  have h5' := (hq g5 (by omega) (by omega) (by omega)).trans h5
  have h1' := (hq _ (by omega) (by omega) (by omega)).trans h1
  have h2' := (hq _ (by omega) (by omega) (by omega)).trans h2
  have hb' : Below g5 w W2 := ⟨hS.os.trans hb.os, hS.tape.trans hb.tape, hS.output.trans hb.output, by have := hb.size; omega, fun j hj => (hq j (by omega) (by omega) (by omega)).trans (hb.block j hj)⟩
  have hr' : W2.ownsRow (g5 + 5) 9 1 v k (strs (SP.take k)) := ownsRow_keep hr (fun g hg => by
   have := World.ownsRow.lt hr g hg
   exact hq g (by omega) (by omega) this.2)
  obtain ⟨ad, cap, rfl, _⟩ := (own_rowO hr').shape
  have d5 := blk_cell (i := 0) h5'
  have f5 := blk_free (i := 0) h5'
  have d7 := blk_cell (i := 0) h7
  simp at d5 d7
  rw [← hg7]
  obtain ⟨xs, hxs⟩ : ∃ xs, xs = strs (SP.take k) := ⟨_, rfl⟩
  rw [← hxs] at hr'
  have hxl : xs.length = k := hr'.1 |> fun h => by simpa using h
  have HX2 := hide hxs
  have HS2 := hide (And.intro h5' (And.intro h1' (And.intro h2' hb')))
  have HR2 := hide hr'
  clear h5 hr h1 h2 hb hz hq h7 h5' h1' h2' hb' hr' hS HI hxs hg7
  have h5A : ∀ ob, (W2.alloc ob).heap[g5]? = some (.cells #[.slice ad k cap] 45 (0, 0)) := fun ob => (hao _ _ (by omega)).trans (unhide HS2).1
  have hNE : ∀ j, j < g5 + 5 → some j ≠ (Value.slice ad k cap).ownBlock := fun j hj e => by
   have := (World.ownsRow.lt (unhide HR2) j e.symm).1
   omega
  have HNC := cell_one_new W2 (.string bk) 9
  rw [hz2] at HNC
  obtain ⟨i0, hi, hi0, hi1, hi2⟩ := info_parts infoStr
  gi_wp2_with (gi_at_builtin; go_loud (refine wpListIn_append_own _ rfl (.tmp 27) (.tmp 30) 45 rfl (g5 + 5) 9 i0 _ 1 16 Tryz.underlying45 hi hi0 hi1 hi2 rfl (by decide) _ k xs rfl (World.ownsRow.alloc (unhide HR2) _) ⟨g7 + 1, 0, none⟩ 1 1 [.string bk] rfl rfl HNC (by simp [Value.oneCell']) (by unfold maxLen; omega) (by omega) (by simp; omega) ?_; intro v' w1 hown' hgrow _; obtain ⟨ad2, cap2, hv2, _⟩ := (own_rowO hown').shape; subst hv2; have h5B := (hgrow.block g5 (by simp; omega) (hNE g5 (by omega))).trans (h5A _); have d5' := blk_cell (i := 0) h5B; have f5' := blk_free (i := 0) h5B; simp at d5'; replace h5B := hide h5B; replace hown' := hide hown'; replace hgrow := hide hgrow))
  obtain ⟨h5', h1', h2', hb'⟩ := unhide HS2
  have hg := unhide hgrow
  have hw1 : g7 + 2 ≤ w1.heap.size := by have := hg.size; simp at this; omega
  have hset := far_set w1 g5 0 (.slice ad2 (k + 1) cap2)
  have hall : ∀ j, j ≠ g5 → j < g5 + 5 → (w1.setCell ⟨g5, 0, none⟩ (.slice ad2 (k + 1) cap2)).heap[j]? = W2.heap[j]? := fun j e1 e2 =>
   (hset.rest j (by omega) e1).trans ((hg.block j (by simp; omega) (hNE j e2)).trans (hao _ _ (by omega)))
  refine ⟨hall _ (by omega) (by omega), hall _ (by omega) (by omega), ⟨_, by have := blk_set (j := 0) (v := .slice ad2 (k + 1) cap2) (unhide h5B); simpa using this, ?_⟩, (hall _ (by omega) (by omega)).trans h1', (hall _ (by omega) (by omega)).trans h2', ?_, ?_⟩
  ·have e : strs (SP.take (k + 1)) = xs ++ [.string bk] := by rw [unhide HT, unhide HX2]; simp [strs]
   rw [e]
   exact ownsRow_keep (unhide hown') (fun g hg' => by
    have := World.ownsRow.lt (unhide hown') g hg'
    exact hset.rest g this.2 (by omega))
  ·exact ((hb'.alloc (by omega) _).grown hg (by simp; omega) (fun j e => by
    have := (World.ownsRow.lt (unhide HR2) j e).1
    omega)).setCell (p := ⟨g5, 0, none⟩) (Nat.le_refl _) _
  ·have := hset.size
   omega
 ·intro k W h
  have := h.2.2.2.2
  omega
 ·intro W h hK
  rw [hD] at hK ⊢
  rw [Nat.min_self, unhide HLN, List.take_length] at h
  obtain ⟨⟨v, h5, hr⟩, _, _, hb, hz⟩ := h
  have c5 := blk_cell (i := 0) h5
  simp at c5
  have HE := hide (And.intro hr hb)
  clear h5 hr hb hy0 hy1 hy2 hby
  go_wp2
  have hput : ∀ j, j ≠ g5 + 3 → (W.putObj (g5 + 3) (.deferred none)).heap[j]? = W.heap[j]? := fun j h => World.putObj_heap_other h
  refine ⟨by simp, .inl ⟨_, _, rfl, run_takeDeferred hK, ?_⟩⟩
  refine ⟨_, results_tmp rfl _ _ _, _, rfl, ownsRow_monoB (ownsRow_keep (unhide HE).1 (fun g hg => hput g (by have := (World.ownsRow.lt (unhide HE).1 g hg).1; omega))) (by have := unhide HG5; omega), ?_⟩
  obtain ⟨_, hb⟩ := unhide HE
  rw [← unhide HG5]
  exact ⟨hb.os, hb.tape, hb.output, by rw [World.putObj_size]; exact hb.size, fun k hk => (hput k (by omega)).trans (hb.block k hk)⟩
set_option maxRecDepth 100000 in
set_option maxHeartbeats 4000000 in
theorem agSpool_any (H : PaAt w p g a.ticks a.welcome a.fenced free sh st c) (hs : Sound st) (O : OnAg a st.opening g free sh pl) (i : Int) :
  Calls Tryz.prog 55 #[ptrTo p, .int .i64 i] w fun r z => ∃ v, r = .returned v ∧ z.ownsRow w.heap.size 9 1 v (agSpools a i).length (strs (agSpools a i)) ∧ Below w.heap.size w z := by
 unfold agSpools
 by_cases h : 0 ≤ i ∧ i < 3
 ·rw [if_pos h]
  obtain ⟨n, rfl⟩ := Int.eq_ofNat_of_zero_le h.1
  exact agSpool_in H hs O n (by omega)
 ·rw [if_neg h]
  have hst : Wire.isStr i = false := by
   cases hc : Wire.isStr i
   ·rfl
   ·simp [Wire.isStr] at hc; omega
  have hIS := isStream_any i w
  rw [hst] at hIS
  have HIS := hide hIS
  clear H O hs hIS hst h
  unfold ptrTo at *
  go_enter Tryz.func55, Tryz.ntmps55
  go_wp2_with (go_at_call 87; refine (unhide HIS).mono ?_; rintro r y ⟨rfl, hyw⟩; obtain rfl : w = y := hyw.symm)
  go_ret
  exact ⟨_, rfl, World.ownsRow_nil _ _ _ _, Below.refl _ _⟩
end
end Go.Proofs.YtamafdcnbcoegaaGreat
namespace Go.Proofs.YtamafdcnbcoegaaGreat
open Go.RowKit
def newAg (s : Nat) (fv rv : Value) : Array Value := #[ptrTo s, .int .i64 0, .int .i64 0, .int .i64 0,
 .slice none 0 0, .map none, .slice none 0 0, .map none, .slice none 0 0, .map none, .slice none 0 0, .map none, .slice none 0 0, .map none, .slice none 0 0, .map none, .slice none 0 0, .map none, .slice none 0 0, .map none, .slice none 0 0, .map none,
 fv, .int .i64 0, .bool false, .bool false, rv]
theorem newAg_get (s : Nat) (fv rv : Value) : (∀ i, i < 3 → (newAg s fv rv)[1 + i]? = some (.int .i64 0)) ∧ ∀ k, k < 9 → (newAg s fv rv)[4 + k * 2]? = some (.slice none 0 0) ∧ (newAg s fv rv)[4 + k * 2 + 1]? = some (.map none) := by
 refine ⟨fun i hi => ?_, fun k hk => ?_⟩
 ·obtain rfl | rfl | rfl : i = 0 ∨ i = 1 ∨ i = 2 := by omega
  all_goals rfl
 ·obtain rfl | rfl | rfl | rfl | rfl | rfl | rfl | rfl | rfl : k = 0 ∨ k = 1 ∨ k = 2 ∨ k = 3 ∨ k = 4 ∨ k = 5 ∨ k = 6 ∨ k = 7 ∨ k = 8 := by omega
  all_goals exact ⟨rfl, rfl⟩
end Go.Proofs.YtamafdcnbcoegaaGreat
namespace Go.Proofs.YtamafdcnbcoegaaGreat
open Go.RowKit
def ag0 : Mod.Ag := { epoch := 1, ticks := 0, welcome := false, fenced := false, fl := fun _ => { base := 0, kept := [], held := [] } }
end Go.Proofs.YtamafdcnbcoegaaGreat
namespace Go.Proofs.YtamafdcnbcoegaaGreat
open Go.RowKit
theorem onAg_sent {g : Nat → Nat} {free : List Nat} {sh : Nat → List (Nat × Value)} {a : Mod.Ag} {op : Nat} {pl : Nat → List Nat} (O : OnAg a op g free sh pl) {i : Nat} (hi : i < 3) {k : Nat} {x : ByteArray × Nat} (hk : (a.fl i).kept[k]? = some x) {t : Nat} (ht : t ≠ 0) :
  OnAg { a with fl := Mod.upd a.fl i { a.fl i with kept := (a.fl i).kept.set k (x.1, t) } } op g free (fun j => if j = i * 3 + 1 then putL (sh (i * 3 + 1)) ((a.fl i).base + 1 + k) (recI t) else sh j) pl := by
 obtain ⟨f2, hf2⟩ : ∃ f2, f2 = ({ a.fl i with kept := (a.fl i).kept.set k (x.1, t) } : Mod.Flow) := ⟨_, rfl⟩
 have hb : f2.base = (a.fl i).base := by rw [hf2]
 have hh : f2.held = (a.fl i).held := by rw [hf2]
 have hkp : f2.kept = (a.fl i).kept.set k (x.1, t) := by rw [hf2]
 have hl : f2.kept.length = (a.fl i).kept.length := by rw [hkp]; simp
 have hkl : k < (a.fl i).kept.length := (List.getElem?_eq_some_iff.1 hk).1
 rw [← hf2]
 clear hf2
 have hfl : ∀ j, Mod.upd a.fl i f2 j = if j = i then f2 else a.fl j := fun j => rfl
 refine ⟨O.ep, fun j hj => ?_, fun j hj => ?_, fun j hj => ?_, fun j hj n => ?_, fun j hj => ?_, fun j hj n => ?_, fun j hj => ?_, fun j hj => ?_, O.nd, O.lt, ?_⟩
 ·show g j = (Mod.upd a.fl i f2 j).base
  rw [hfl]
  by_cases e : j = i
  ·rw [if_pos e, hb, e]; exact O.bs i hi
  ·rw [if_neg e]; exact O.bs j hj
 ·show (pl j).length = (Mod.upd a.fl i f2 j).kept.length
  rw [hfl]
  by_cases e : j = i
  ·rw [if_pos e, hl, e]; exact O.pn i hi
  ·rw [if_neg e]; exact O.pn j hj
 ·show (if j * 3 = i * 3 + 1 then _ else sh (j * 3)) = keptL (Mod.upd a.fl i f2 j).base (Mod.upd a.fl i f2 j).kept (pl j)
  rw [if_neg (by omega), hfl]
  by_cases e : j = i
  ·rw [if_pos e, hb, e, O.kp i hi]
   refine keptL_same _ _ _ _ ?_
   rw [hkp, List.map_set]
   refine (List.ext_getElem? fun n => ?_).symm
   rw [List.getElem?_set]
   by_cases en : k = n
   ·subst en
    rw [if_pos rfl, if_pos (by simpa using hkl), List.getElem?_map, hk]
    rfl
   ·rw [if_neg en]
  ·rw [if_neg e]; exact O.kp j hj
 ·show look (if j * 3 + 1 = i * 3 + 1 then _ else sh (j * 3 + 1)) _ = sentF (Mod.upd a.fl i f2 j) n
  rw [hfl]
  by_cases e : j = i
  ·subst e
   rw [if_pos rfl, if_pos rfl, look_putL]
   have h0 := O.sn j hj n
   unfold putF
   by_cases en : n = (a.fl j).base + 1 + k
   ·rw [if_pos (by omega)]
    unfold sentF
    rw [if_neg (by omega), hb, hkp, show n - (a.fl j).base - 1 = k by omega, List.getElem?_set, if_pos rfl, if_pos hkl]
    show _ = if t = 0 then none else some (recI t)
    rw [if_neg ht]
   ·rw [if_neg (by omega), h0]
    unfold sentF
    rw [hb]
    by_cases hn : n ≤ (a.fl j).base
    ·rw [if_pos hn, if_pos hn]
    ·rw [if_neg hn, if_neg hn, hkp, List.getElem?_set, if_neg (by omega)]
  ·rw [if_neg (by omega), if_neg e]; exact O.sn j hj n
 ·show AreI (if j * 3 + 1 = i * 3 + 1 then _ else sh (j * 3 + 1))
  by_cases e : j = i
  ·subst e
   rw [if_pos rfl]
   intro y hy
   rcases mem_putL hy with rfl | hy
   ·exact ⟨t, rfl⟩
   ·exact O.si j hj y hy
  ·rw [if_neg (by omega)]; exact O.si j hj
 ·show (look (if j * 3 + 2 = i * 3 + 1 then _ else sh (j * 3 + 2)) _).isSome = (Mod.upd a.fl i f2 j).held.contains n
  rw [if_neg (by omega), hfl]
  by_cases e : j = i
  ·rw [if_pos e, hh, e]; exact O.hd i hi n
  ·rw [if_neg e]; exact O.hd j hj n
 ·show AreU (if j * 3 + 2 = i * 3 + 1 then _ else sh (j * 3 + 2))
  rw [if_neg (by omega)]; exact O.hu j hj
 ·show (if j * 3 + 2 = i * 3 + 1 then _ else sh (j * 3 + 2)).length ≤ 3
  rw [if_neg (by omega)]; exact O.hl j hj
 ·have h := O.sum
  have h2 := room_upd (a := a) hi f2
  omega
section
variable {w x : World} {p : Nat} {g : Nat → Nat} {tk : Nat} {wel fen : Bool} {free : List Nat} {sh sh2 : Nat → List (Nat × Value)} {st : Mod.Stv} {c c2 : Av}
theorem paAt_nv {i : Nat} {l' : List (Nat × Value)} (H : PaAt w p g tk wel fen free sh st c) (h : ShStep w x p (4 + i * 2) 151 c.arr (c.nv i) (c.mv i) l')
  (H2 : PaAt x p g tk wel fen free sh2 st c2) : ∀ j, j < 9 → j ≠ i → c2.nv j = c.nv j ∧ c2.mv j = c.mv j := by
 obtain ⟨⟨nv', mv', S, _, _⟩, _⟩ := h
 have hb := S.blk
 rw [H2.ks.blk] at hb
 injection hb with hb
 injection hb with hb _ _
 intro j hj hne
 have hget : ∀ q, q ≠ 4 + i * 2 → q ≠ 4 + i * 2 + 1 → c2.arr[q]? = c.arr[q]? := fun q h1 h2 => by
  rw [hb, Array.getElem?_setIfInBounds_ne (by omega), Array.getElem?_setIfInBounds_ne (by omega)]
 have e1 := H2.ks.an j hj
 have e2 := H2.ks.am j hj
 rw [hget _ (by omega) (by omega), H.ks.an j hj] at e1
 rw [hget _ (by omega) (by omega), H.ks.am j hj] at e2
 exact ⟨by injection e1 with e1; exact e1.symm, by injection e2 with e2; exact e2.symm⟩
end
end Go.Proofs.YtamafdcnbcoegaaGreat
namespace Go.Proofs.YtamafdcnbcoegaaGreat
open Go.RowKit
section
variable {w : World} {p : Nat} {g : Nat → Nat} {free : List Nat} {sh : Nat → List (Nat × Value)} {st : Mod.Stv} {c : Av} {a : Mod.Ag} {pl : Nat → List Nat}
theorem hello_proper (n : Nat) (hn : n ≤ 2147483647) : Wire.proper 1 n 0 0 ⟨#[]⟩ = true := by
 simp [Wire.proper, Wire.isNum, ByteArray.size]; omega
end
end Go.Proofs.YtamafdcnbcoegaaGreat
namespace Go.Proofs.YtamafdcnbcoegaaGreat
open Go.RowKit
def sentAg (a : Mod.Ag) (i tk k : Nat) : Mod.Ag := { a with fl := Mod.upd a.fl i { a.fl i with kept := (Mod.sendTo a.epoch i (a.fl i) tk k).1 } }
theorem sentAg_fl (a : Mod.Ag) (i tk k : Nat) : (sentAg a i tk k).fl i = { a.fl i with kept := (Mod.sendTo a.epoch i (a.fl i) tk k).1 } := by
 unfold sentAg Mod.upd
 simp
theorem sentAg_zero (a : Mod.Ag) (i tk : Nat) : sentAg a i tk 0 = a := by
 unfold sentAg
 have : Mod.upd a.fl i { a.fl i with kept := (Mod.sendTo a.epoch i (a.fl i) tk 0).1 } = a.fl := by
  funext t
  unfold Mod.upd
  split
  ·rename_i e; rw [e]; rfl
  ·rfl
 rw [this]
theorem sentAg_skip {a : Mod.Ag} {i tk k : Nat} (hk : k < (a.fl i).kept.length) (hd : Mod.due (a.fl i) tk k (a.fl i).kept[k].2 = false) : sentAg a i tk (k + 1) = sentAg a i tk k := by
 unfold sentAg
 rw [sendTo_skip hk hd]
theorem sentAg_get {a : Mod.Ag} {i tk k : Nat} (hk : k < (a.fl i).kept.length) : ((sentAg a i tk k).fl i).kept[k]? = some (a.fl i).kept[k] := by
 rw [sentAg_fl]
 show (Mod.sendTo a.epoch i (a.fl i) tk k).1[k]? = _
 rw [sendTo_get _ _ _ _ _ _ (Nat.le_refl _), List.getElem?_eq_getElem hk]
theorem sentAg_len (a : Mod.Ag) (i tk k : Nat) : ((sentAg a i tk k).fl i).kept.length = (a.fl i).kept.length := by
 rw [sentAg_fl]
 exact sendTo_len _ _ _ _ _
theorem sentAg_due (a : Mod.Ag) (i tk k t j s : Nat) : Mod.due ((sentAg a i tk k).fl i) t j s = Mod.due (a.fl i) t j s := by
 rw [sentAg_fl]
 rfl
theorem sentAg_base (a : Mod.Ag) (i tk k : Nat) : ((sentAg a i tk k).fl i).base = (a.fl i).base := by rw [sentAg_fl]
theorem onAg_sentAg {g : Nat → Nat} {free : List Nat} {sh : Nat → List (Nat × Value)} {a : Mod.Ag} {op : Nat} {pl : Nat → List Nat} {i tk k : Nat} (O : OnAg (sentAg a i tk k) op g free sh pl) (hi : i < 3) (hk : k < (a.fl i).kept.length) (hd : Mod.due (a.fl i) tk k (a.fl i).kept[k].2 = true) (ht : tk ≠ 0) :
  OnAg (sentAg a i tk (k + 1)) op g free (fun j => if j = i * 3 + 1 then putL (sh (i * 3 + 1)) ((a.fl i).base + 1 + k) (recI tk) else sh j) pl := by
 have h := onAg_sent O hi (sentAg_get (tk := tk) hk) ht
 rw [sentAg_base] at h
 have e : sentAg a i tk (k + 1) = { sentAg a i tk k with fl := Mod.upd (sentAg a i tk k).fl i { (sentAg a i tk k).fl i with kept := ((sentAg a i tk k).fl i).kept.set k ((a.fl i).kept[k].1, tk) } } := by
  rw [sentAg_fl]
  unfold sentAg
  rw [sendTo_send hk hd]
  have : ∀ (f : Nat → Mod.Flow) (x y : Mod.Flow), Mod.upd (Mod.upd f i x) i y = Mod.upd f i y := fun f x y => by
   funext t
   unfold Mod.upd
   split <;> rfl
  simp only [this]
 rw [e]
 exact h
theorem sentAg_four {a : Mod.Ag} {i tk k : Nat} (h : k = min 4 (a.fl i).kept.length) : sentAg a i tk 4 = sentAg a i tk k := by
 unfold sentAg
 rw [sendTo_four (i := k) (by omega) (by omega)]
def tickAg (a : Mod.Ag) (t s : Nat) : Mod.Ag := { a with ticks := t, fl := Mod.sendFl a.epoch t a.fl s }
theorem tickAg_fl (a : Mod.Ag) (t s : Nat) : (tickAg a t s).fl s = a.fl s := by
 unfold tickAg Mod.sendFl
 simp
theorem tickAg_succ (a : Mod.Ag) (t s : Nat) : sentAg (tickAg a t s) s t 4 = tickAg a t (s + 1) := by
 unfold sentAg
 rw [tickAg_fl]
 have : Mod.upd (tickAg a t s).fl s { a.fl s with kept := (Mod.sendTo (tickAg a t s).epoch s (a.fl s) t 4).1 } = Mod.sendFl a.epoch t a.fl (s + 1) := by
  funext j
  unfold Mod.upd tickAg Mod.sendFl
  simp only
  by_cases e : j = s
  ·subst e
   rw [if_pos rfl, if_pos (by omega)]
  ·rw [if_neg e]
   by_cases h : j < s
   ·rw [if_pos h, if_pos (by omega)]
   ·rw [if_neg h, if_neg (by omega)]
 rw [this]
 rfl
theorem tickAg_zero (a : Mod.Ag) (t : Nat) : tickAg a t 0 = { a with ticks := t } := by
 unfold tickAg
 have : Mod.sendFl a.epoch t a.fl 0 = a.fl := by
  funext j
  unfold Mod.sendFl
  rw [if_neg (by omega)]
 rw [this]
theorem tick_send {a : Mod.Ag} (hf : a.fenced = false) (hw : a.welcome = true) : a.tick = (tickAg a (a.ticks + 1) 3, Mod.sendOut a.epoch (a.ticks + 1) a.fl 3) := by
 unfold Mod.Ag.tick
 rw [if_neg (by rw [hf]; decide), if_neg (by rw [hw]; decide)]
 rfl
end Go.Proofs.YtamafdcnbcoegaaGreat
namespace Go.Proofs.YtamafdcnbcoegaaGreat
open Go.RowKit
theorem wire_front_len (k e s q : Int) (b : List UInt8) : (Wire.bytes k e s q b).length = 15 + b.length := Wire.length_bytes k e s q b
theorem fence_size (n : Nat) : (fenceOf n).data.toList.length = 15 := by
 unfold fenceOf
 simp [wire_front_len]
theorem wel_size (a : Mod.Sk) (e : Nat) : (skWel a e).data.toList.length = 27 := by
 unfold skWel
 simp [wire_front_len, welB, le4S]
theorem ack_size (a : Mod.Sk) (k e : Int) (s qn : Nat) (b : ByteArray) : (skAck a k e s qn b).data.toList.length = 16 := by
 unfold skAck
 simp [wire_front_len, ackBody]
theorem skReply_small (a : Mod.Sk) (k e : Int) (s q : Nat) (b : ByteArray) : (skReply a k e s q b).2.length ≤ 1 ∧ ∀ x ∈ (skReply a k e s q b).2, x.data.toList.length ≤ 27 := by
 have h1 : ∀ c : ByteArray, c.data.toList.length ≤ 27 → ([c] : List ByteArray).length ≤ 1 ∧ ∀ x ∈ ([c] : List ByteArray), x.data.toList.length ≤ 27 := fun c h => ⟨by simp, fun x hx => by rw [List.mem_singleton] at hx; rw [hx]; exact h⟩
 unfold skReply
 repeat' split
 all_goals first
  | exact h1 _ (by rw [fence_size]; omega)
  | exact h1 _ (by rw [wel_size]; omega)
  | exact h1 _ (by rw [ack_size]; omega)
  | exact ⟨by simp, fun x hx => by cases hx⟩
theorem skSays_small (a : Mod.Sk) (l : List UInt8) : (skSays a l).2.2.length ≤ 1 ∧ ∀ x ∈ (skSays a l).2.2, x.data.toList.length ≤ 27 := by
 unfold skSays
 split
 ·exact skReply_small _ _ _ _ _ _
 ·simp
theorem FramesOut.keep {B : Nat} {w x : World} {lv : Value} {fs : List Value} {Fl : List ByteArray} {U : Nat → Prop} (h : FramesOut B w lv fs Fl U) (hk : ∀ k, (lv.ownBlock = some k ∨ Done fs fs.length k) → x.heap[k]? = w.heap[k]?) : FramesOut B x lv fs Fl U :=
 ⟨h.len, ownsRow_keep h.row (fun k hk' => hk k (.inl hk')), fun j v hv => ownsRow_keep (h.each j v hv) (fun k hk' => hk k (.inr ⟨j, (List.getElem?_eq_some_iff.1 hv).1, v, hv, hk'⟩)), h.apart, h.clear⟩
theorem FramesOut.lt {B : Nat} {w : World} {lv : Value} {fs : List Value} {Fl : List ByteArray} {U : Nat → Prop} (h : FramesOut B w lv fs Fl U) : ∀ k, (lv.ownBlock = some k ∨ Done fs fs.length k) → B ≤ k ∧ k < w.heap.size := by
 rintro k (h1 | ⟨j, _, v, h1, h2⟩)
 ·exact World.ownsRow.lt h.row k h1
 ·exact World.ownsRow.lt (h.each j v h1) k h2
def Outs (fv : Value) (fs : List Value) (k : Nat) : Prop := fv.ownBlock = some k ∨ Done fs fs.length k
end Go.Proofs.YtamafdcnbcoegaaGreat
