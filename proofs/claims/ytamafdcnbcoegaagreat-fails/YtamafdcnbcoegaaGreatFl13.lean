/-
  Part 13 of a proof: K26, K27, K28, K29, K30, K31, T6, K32.
-/
import Derived.Test.YtamafdcnbcoegaaGreatFl12
namespace Go.Proofs.YtamafdcnbcoegaaGreat
open Go.RowKit

section
variable {op ct n : Nat} {w : World} {p : Nat} {a : Mod.Sk} {sh : Nat → List (Nat × Value)} {st : Mod.Stv} {c : Sv}
theorem take_ok (H : PkAt w p a.epoch a.logs sh st c) (hs : Alv op ct n st a.epoch a.logs) (hct : ct + 1000 < 18446744073709551616) (G : SkGood a) (M : SkMore a) (O : OnSh a.held sh) (e : Int) (i q : Nat) (hi : i < 3) (hq : q ≤ 2147483647) (b : ByteArray) (hb : b.size ≤ 20) (hn : n = 0 ∨ (a.commits 3 a.epoch i q b).length < n) :
    Calls Tryz.prog 163 #[ptrTo p, .agg #[.int .i64 3, .int .i64 e, .int .i64 i, .int .i64 q, .string b]] w fun r w' => r = .returned (.int .i64 0) ∧ SkIs2 op (ct + (a.commits 3 a.epoch i q b).length) (n - (a.commits 3 a.epoch i q b).length) w w' p (skAfter a 3 a.epoch i q b) c := by
  refine (take_gen H hs hct G M O e i q hi hq b hb).mono ?_
  rintro r w' ⟨v, rfl, ⟨rfl, _, h⟩ | ⟨_, h1, h2, _⟩⟩
  · exact ⟨rfl, h⟩
  · omega
theorem take_bad (H : PkAt w p a.epoch a.logs sh st c) (hs : Alv op ct n st a.epoch a.logs) (hct : ct + 1000 < 18446744073709551616) (G : SkGood a) (M : SkMore a) (O : OnSh a.held sh) (e : Int) (i q : Nat) (hi : i < 3) (hq : q ≤ 2147483647) (b : ByteArray) (hb : b.size ≤ 20) (hn : 1 ≤ n ∧ n ≤ (a.commits 3 a.epoch i q b).length) :
    Calls Tryz.prog 163 #[ptrTo p, .agg #[.int .i64 3, .int .i64 e, .int .i64 i, .int .i64 q, .string b]] w fun r w' => r = .returned (.int .i64 4) ∧ DeadAt op w w' p a.epoch (grown a i ((a.commits 3 a.epoch i q b).take (n - 1))).logs c := by
  refine (take_gen H hs hct G M O e i q hi hq b hb).mono ?_
  rintro r w' ⟨v, rfl, ⟨rfl, h, _⟩ | ⟨rfl, _, _, h⟩⟩
  · omega
  · exact ⟨rfl, h⟩
theorem begin_ok (H : PkAt w p a.epoch a.logs sh st c) (hs : Alv op ct n st a.epoch a.logs) (hct : ct + 1000 < 18446744073709551616) (O : OnSh a.held sh) (e : Nat) (he : a.epoch ≤ e) (hem : e ≤ 2147483647) (hn : n = 0 ∨ hiW a e < n) :
    Calls Tryz.prog 160 #[ptrTo p, .int .i64 e] w fun r w' => r = .returned (.int .i64 0) ∧ SkIs2 op (ct + hiW a e) (n - hiW a e) w w' p (helloIt a e) c := by
  refine (begin_gen H hs hct O e he hem).mono ?_
  rintro r w' ⟨v, rfl, ⟨rfl, _, h⟩ | ⟨_, h1, h2, _⟩⟩
  · exact ⟨rfl, h⟩
  · omega
theorem begin_bad (H : PkAt w p a.epoch a.logs sh st c) (hs : Alv op ct n st a.epoch a.logs) (hct : ct + 1000 < 18446744073709551616) (O : OnSh a.held sh) (e : Nat) (he : a.epoch ≤ e) (hem : e ≤ 2147483647) (hn : 1 ≤ n ∧ n ≤ hiW a e) :
    Calls Tryz.prog 160 #[ptrTo p, .int .i64 e] w fun r w' => r = .returned (.int .i64 4) ∧ DeadAt op w w' p a.epoch a.logs c := by
  refine (begin_gen H hs hct O e he hem).mono ?_
  rintro r w' ⟨v, rfl, ⟨rfl, h, _⟩ | ⟨rfl, _, _, h⟩⟩
  · omega
  · rw [List.take_nil, grown_zero] at h
    exact ⟨rfl, h⟩
end
set_option maxRecDepth 100000 in
set_option maxHeartbeats 4000000 in
theorem answerData_ok {op ct n : Nat} {w : World} {p : Nat} {a : Mod.Sk} {sh : Nat → List (Nat × Value)} {st : Mod.Stv} {c : Sv} (H : PkAt w p a.epoch a.logs sh st c) (hs : Alv op ct n st a.epoch a.logs) (hct : ct + 1000 < 18446744073709551616) (G : SkGood a) (M : SkMore a) (O : OnSh a.held sh) (i q : Nat) (hi : i < 3) (hq : q ≤ 2147483647) (b : ByteArray) (hb : b.size ≤ 20) (hnw : n = 0 ∨ (a.commits 3 a.epoch i q b).length < n) :
    Calls Tryz.prog 110 #[ptrTo p, .agg #[.int .i64 3, .int .i64 a.epoch, .int .i64 i, .int .i64 q, .string b]] w fun r z =>
      r = .returned (.tuple #[.agg #[.int .i64 4, .int .i64 a.epoch, .int .i64 i, .int .i64 ((skAfter a 3 a.epoch i q b).logs i).length, .string (ackBody (skAfter a 3 a.epoch i q b) i ((skAfter a 3 a.epoch i q b).logs i).length)], .int .i64 0]) ∧ SkIs2 op (ct + (a.commits 3 a.epoch i q b).length) (n - (a.commits 3 a.epoch i q b).length) w z p (skAfter a 3 a.epoch i q b) c := by
  obtain ⟨nn, hnn⟩ : ∃ nn, nn = n - (a.commits 3 a.epoch i q b).length := ⟨_, rfl⟩
  obtain ⟨cc, hcc⟩ : ∃ cc, cc = ct + (a.commits 3 a.epoch i q b).length := ⟨_, rfl⟩
  have c1 : w.cell? ⟨p, 1, none⟩ = some (.int .i64 a.epoch) := by rw [blk_cell H.ks.blk, H.ks.a1]
  have hpl := lt_of_block H.ks.blk
  have hTK := fun y (hy : Below w.heap.size w y) => hide (take_ok (H.far (far_below (E := fun _ => False) hy) (fun _ _ h => h)) hs hct G M O a.epoch i q hi hq b hb hnw)
  rw [← hnn, ← hcc] at hTK ⊢
  clear hnn hcc hnw
  have hep2 : (skAfter a 3 a.epoch i q b).epoch = a.epoch := by
    unfold skAfter
    split
    · exact holdIt_epoch _ _ _ _
    · rfl
  obtain ⟨a2, ha2⟩ : ∃ a2, a2 = skAfter a 3 a.epoch i q b := ⟨_, rfl⟩
  rw [← ha2] at hTK hep2 ⊢
  obtain ⟨ep, hep⟩ : ∃ ep, ep = a.epoch := ⟨_, rfl⟩
  rw [← hep] at c1 hTK hep2 ⊢
  have hneb : ((ep : Int) != (ep : Int)) = false := by simp
  have hUl := hide H.lt
  have DD := hide (rsAt_new w #[.int .i64 3, .int .i64 ep, .int .i64 i, .int .i64 q, .string b] zFr)
  have hi0 : (0 : Int) ≤ (i : Int) := by omega
  have hi3 : (i : Int) < 3 := by omega
  have HEP := hide hep2
  clear hs hct
  clear n
  obtain ⟨n, hn⟩ : ∃ n, n = (a2.logs i).length := ⟨_, rfl⟩
  rw [← hn]
  obtain ⟨bd, hbd⟩ : ∃ bd, bd = ackBody a2 i n := ⟨_, rfl⟩
  rw [← hbd]
  have HNB := hide (And.intro hn hbd)
  clear H hep ha2 hep2 hn hbd
  unfold ptrTo at *
  go_enter Tryz.func110, Tryz.ntmps110
  go_upto_region 1 with fail
  refine wp_world (RsAt w #[.int .i64 3, .int .i64 ep, .int .i64 i, .int .i64 q, .string b] zFr) (unhide DD) ?_
  clear DD
  intro x X
  have y1 := blk_cell (i := 1) X.box
  simp at y1
  have z1 := (X.bel.cell (p := ⟨p, 1, none⟩) hpl).trans c1
  have HX := hide X
  clear X
  go_quiet (fail)
  go_upto_region 3 with fail
  refine wp_world (RsAt w #[.int .i64 3, .int .i64 ep, .int .i64 i, .int .i64 q, .string b] zFr) ((unhide HX).drewN _) ?_
  clear HX y1 z1
  intro x2 X
  have y0 := blk_cell (i := 0) X.box
  have y1 := blk_cell (i := 1) X.box
  have y2 := blk_cell (i := 2) X.box
  have y3 := blk_cell (i := 3) X.box
  have y4 := blk_cell (i := 4) X.box
  simp at y0 y1 y2 y3 y4
  have hT := hide (unhide (hTK x2 X.bel))
  have HX := hide X
  clear X hTK
  go_upto_region 6 with (go_at_call 163; refine (unhide hT).mono ?_; rintro r y ⟨rfl, hk⟩)
  obtain ⟨sh2, st2, ⟨c2, K2, F2, N2, t1, t2⟩, hs2, O2⟩ := hk
  have hnE : ∀ k, w.heap.size ≤ k → ¬ PkU p c k := fun k hk h => by have := (unhide hUl) k h; omega
  have hgx := (unhide HX).lt
  refine wp_world (fun z => PkAt z p a2.epoch a2.logs sh2 st2 c2 ∧ Far (PkU p c) x2 z ∧ z.heap[w.heap.size]? = some (.cells #[.int .i64 3, .int .i64 ep, .int .i64 i, .int .i64 q, .string b] 41 (0, 0)) ∧ z.heap[w.heap.size + 1]? = some (.cells zFr 41 (0, 0))) ⟨K2, F2, F2.blk (unhide HX).box (hnE _ (Nat.le_refl _)), F2.blk (unhide HX).res (hnE _ (by omega))⟩ ?_
  clear y0 y1 y2 y3 y4 K2 F2 hT
  rintro x3 ⟨K3, F3, hbx, hrx⟩
  have y2 : x3.cell? ⟨w.heap.size, 2, none⟩ = some (.int .i64 i) := blk_cell (i := 2) hbx
  have HK3 := hide K3
  have HF3 := hide F3
  have HBX := hide (And.intro hbx hrx)
  have HN2 := hide (And.intro N2 (And.intro t1 (And.intro t2 (And.intro hs2 O2))))
  clear K3 F3 hbx hrx N2 t1 t2 hs2 O2
  go_quiet (fail)
  go_upto_region 7 with fail
  refine wp_world (fun z => PkAt z p a2.epoch a2.logs sh2 st2 c2 ∧ Far (PkU p c) x2 z ∧ z.heap[w.heap.size]? = some (.cells #[.int .i64 3, .int .i64 ep, .int .i64 i, .int .i64 q, .string b] 41 (0, 0)) ∧ z.heap[w.heap.size + 1]? = some (.cells zFr 41 (0, 0))) ⟨(unhide HK3).far (far_drewN (fun _ => False) _ _) (fun _ _ h => h), (unhide HF3).trans (far_drewN (fun _ => False) _ _) (fun _ _ h => h.elim), (unhide HBX).1, (unhide HBX).2⟩ ?_
  clear y2 HK3 HF3 HBX
  rintro x4 ⟨K4, F4, hbx, hrx⟩
  obtain ⟨ad, cap, _, clog⟩ := K4.ks.logc hi
  have hll := K4.ks.loglen hi
  obtain ⟨hn, hbd⟩ := unhide HNB
  rw [← hn] at clog hll
  have hO2 := (unhide HN2).2.2.2.2
  have hAB := fun z (hz : Below x4.heap.size x4 z) => hide (ackBody_any ((K4.far (far_below (E := fun _ => False) hz) (fun _ _ h => h)).shAt hi) (K4.ks.are i hi) n (by omega))
  rw [ack_body_same hO2 K4.ks.are hi n, ← hbd] at hAB
  have hLS := fun z (hz : Below x4.heap.size x4 z) => hide (sinkLast_any z p (2 + i * 3) n cap ad ((hz.cell (p := ⟨p, 2 + i * 3, none⟩) (lt_of_block K4.ks.blk)).trans clog))
  have hpx := lt_of_block K4.ks.blk
  have c14 : x4.cell? ⟨p, 1, none⟩ = some (.int .i64 ep) := by rw [blk_cell K4.ks.blk, K4.ks.a1, unhide HEP]
  have y2 : x4.cell? ⟨w.heap.size, 2, none⟩ = some (.int .i64 i) := blk_cell (i := 2) hbx
  have hgb := lt_of_block hbx
  have HK4 := hide K4
  have HF4 := hide F4
  have HBX := hide hrx
  clear K4 F4 hbx hrx hn hbd hO2
  have hnp : p ≠ w.heap.size + 1 := by omega
  refine wp_region_foot (by kernel_rfl)
    [fun v _ => v = .pointer (some ⟨p, 0, none⟩), fun v _ => v = .pointer (some ⟨p, 0, none⟩), fun v _ => v = .pointer (some ⟨p, 1, none⟩), fun v _ => v = .int .i64 ep, fun v _ => v = .pointer (some ⟨w.heap.size, 2, none⟩), fun v _ => v = .int .i64 i,
     fun v _ => v = .pointer (some ⟨p, 2 + i * 3, none⟩), fun v _ => v = .int .i64 n, fun v _ => v = .pointer (some ⟨p, 2 + i * 3, none⟩), fun v _ => v = .int .i64 n, fun v _ => v = .pointer (some ⟨p, 2 + i * 3, none⟩), fun v _ => v = .pointer (some ⟨p, 2 + i * 3, none⟩), fun v _ => v = .pointer (some ⟨p, 2 + i * 3 + 1, none⟩),
     fun v _ => v = .func (.func 165) #[.pointer (some ⟨p, 2 + i * 3 + 1, none⟩)] #[], fun v _ => v = .string bd, fun v _ => v = .agg #[.int .i64 4, .int .i64 ep, .int .i64 i, .int .i64 n, .string bd],
     fun _ z => z.heap[w.heap.size + 1]? = some (.cells #[.int .i64 4, .int .i64 ep, .int .i64 i, .int .i64 n, .string bd] 41 (0, 0)), fun v _ => v = .int .i64 0]
    [[(0, none)], [(36, some 0)], [(37, some 1)], [(38, some 2)], [(3, none)], [(40, some 4)], [(7, none)], [(42, some 6)], [(7, none)], [(44, some 8)], [(7, none)], [(46, some 10)], [(47, some 11)], [(48, some 12)], [(45, some 9), (49, some 13)], [(39, some 3), (41, some 5), (43, some 7), (50, some 14)], [(4, none), (51, some 15)], []] [some 36, some 37, some 38, some 39, some 40, some 41, some 42, some 43, some 44, some 45, some 46, some 47, some 48, some 49, some 50, some 51, none, some 5] [false, false, false, false, false, true, false, false, false, false, false, false, false, false, false, false, false, false, false, false, false, false, false, false, false, false, false, false, false, false, false, false, false, false, false, false, true, true, true, true, true, true, true, true, true, true, true, true, true, true, true, true]
    [(16, fun k => k = w.heap.size + 1)]
    (by kernel_rfl) (by kernel_rfl) (by kernel_rfl) (by kernel_rfl) (by kernel_rfl) ?_ ?_ ?_ ?_
  · repeat' (first | exact stable_eq _ | exact stable_blk _ _ | exact trivial | apply And.intro)
  · repeat' (first | exact trivial | exact .inl rfl | exact .inr (.inr (stableF_eq _ _)) | apply And.intro)
  · refine ⟨?_, ?_, ?_, ?_, ?_, ?_, ?_, ?_, ?_, ?_, ?_, ?_, ?_, ?_, ?_, ?_, ?_, ?_, trivial⟩
    case refine_17 =>
      intro a' z hb hf
      simp only [PlanFacts, List.getD_cons_zero, List.getD_cons_succ, Array.getD_eq_getD_getElem?] at hf
      try simp at hf
      have q0 := hb.blk (unhide HBX) (by
        rintro ⟨q, hq, g1, g2, g3⟩
        simp at hq
        subst hq
        exact g1 rfl)
      clear hb
      rw [if_pos (by rfl)]
      refine wp_store_row 41 (.tmp 4) (.tmp 51) rfl (w.heap.size + 1) #[.int .i64 4, .int .i64 ep, .int .i64 i, .int .i64 n, .string bd] (by simp [Act.eval, hf]) (by simp [Act.eval, hf]) 41 _ q0 (by rw [size_frame]; rfl) rfl (by rw [Array.all_eq_true_iff_forall_mem]; intro u hu; simp at hu; rcases hu with rfl | rfl | rfl | rfl | rfl <;> rfl) ?_
      exact ⟨_, rfl, footOf_of (.head _) (far_setRow _ _ _), setRow_heap _ _ _ _ _ _ q0⟩
    case refine_18 =>
      intro a' z hb hf
      clear hb
      go_simp
      exact ⟨_, rfl, Far.refl _ _, rfl⟩
    all_goals
      intro a' z hb hf
      have hbz : Below x4.heap.size x4 z := foot_below hb (by intro q hq; simp at hq; subst hq; show depB _ 16 _ = true; decide +kernel)
      have z2 := (hbz.cell (p := ⟨w.heap.size, 2, none⟩) hgb).trans y2
      have z1 := (hbz.cell (p := ⟨p, 1, none⟩) hpx).trans c14
      have HA := hide (unhide (hAB z hbz))
      have HL := hide (unhide (hLS z hbz))
      clear hb hbz hAB hLS
      simp only [PlanFacts, List.getD_cons_zero, List.getD_cons_succ, Array.getD_eq_getD_getElem?] at hf
      try simp at hf
      go_simp
      first
        | exact ⟨_, rfl, Far.refl _ _, rfl⟩
        | (refine (unhide HL).mono ?_; rintro r z2 ⟨rfl, rfl⟩; exact ⟨_, rfl, Far.refl _ _, rfl⟩)
        | (refine (unhide HA).mono ?_; rintro r z2 ⟨rfl, hb2⟩; exact ⟨_, rfl, far_below hb2, rfl⟩)
        | skip
  · intro f z hF hwd
    have h8 := hwd.2.2.2.2.2.2.2.2.2.2.2.2.2.2.2.2.1
    have h9 := hwd.2.2.2.2.2.2.2.2.2.2.2.2.2.2.2.2.2.1
    have q0 : z.cell? ⟨w.heap.size + 1, 0, none⟩ = some (.int .i64 4) := blk_cell (i := 0) h8
    have q1 : z.cell? ⟨w.heap.size + 1, 1, none⟩ = some (.int .i64 ep) := blk_cell (i := 1) h8
    have q2 : z.cell? ⟨w.heap.size + 1, 2, none⟩ = some (.int .i64 i) := blk_cell (i := 2) h8
    have q3 : z.cell? ⟨w.heap.size + 1, 3, none⟩ = some (.int .i64 n) := blk_cell (i := 3) h8
    have q4 : z.cell? ⟨w.heap.size + 1, 4, none⟩ = some (.string bd) := blk_cell (i := 4) h8
    have hF : Far (fun k => k = w.heap.size + 1) x4 z := hF.mono (fun k _ h => by
      obtain ⟨q, hq, h⟩ := h
      simp at hq
      subst hq
      exact h)
    have HFZ := hide hF
    clear hwd hF h8
    simp only [mergeT, h9]
    generalize f 36 = x36
    generalize f 37 = x37
    generalize f 38 = x38
    generalize f 39 = x39
    generalize f 40 = x40
    generalize f 41 = x41
    generalize f 42 = x42
    generalize f 43 = x43
    generalize f 44 = x44
    generalize f 45 = x45
    generalize f 46 = x46
    generalize f 47 = x47
    generalize f 48 = x48
    generalize f 49 = x49
    generalize f 50 = x50
    generalize f 51 = x51
    go_simp
    go_wp2
    refine bodyPost_ret (v := .tuple #[.agg #[.int .i64 4, .int .i64 ep, .int .i64 i, .int .i64 n, .string bd], .int .i64 0]) (by simp [results, Tryz.results110, go_sem, q0, q1, q2, q3, q4]) rfl ⟨rfl, ?_⟩
    obtain ⟨N2, t1, t2, hs2, O2⟩ := unhide HN2
    have hxb := (unhide HX).bel
    have hFz := unhide HFZ
    have hres : ¬ PkU p c2 (w.heap.size + 1) := by
      have hc := unhide HBX
      exact pk_not_cells (unhide HK4) hc (by decide) (by decide) (by decide) (by decide) (by decide) (by decide) (by decide) (by decide)
    refine ⟨sh2, st2, ⟨c2, (unhide HK4).far hFz (fun k hk e => hres (by rw [← e]; exact hk)), ?_, fun k hk => (N2 k hk).imp id (fun h => Nat.le_trans hxb.size h), t1, t2⟩, hs2, O2⟩
    exact ((far_below (E := PkU p c) hxb).trans (unhide HF4) (fun _ _ h => h)).trans hFz (fun k hk e => by omega)
set_option maxRecDepth 100000 in
set_option maxHeartbeats 4000000 in
theorem answerHello_ok {op ct n : Nat} {w : World} {p : Nat} {a : Mod.Sk} {sh : Nat → List (Nat × Value)} {st : Mod.Stv} {c : Sv} (H : PkAt w p a.epoch a.logs sh st c) (hs : Alv op ct n st a.epoch a.logs) (hct : ct + 1000 < 18446744073709551616) (O : OnSh a.held sh) (e : Nat) (s q : Int) (b : ByteArray) (he : a.epoch ≤ e) (hem : e ≤ 2147483647) (hnw : n = 0 ∨ hiW a e < n) :
    Calls Tryz.prog 109 #[ptrTo p, .agg #[.int .i64 1, .int .i64 e, .int .i64 s, .int .i64 q, .string b]] w fun r z =>
      r = .returned (.tuple #[.agg #[.int .i64 2, .int .i64 e, .int .i64 0, .int .i64 0, .string (welB a)], .int .i64 0]) ∧ SkIs2 op (ct + hiW a e) (n - hiW a e) w z p (helloIt a e) c := by
  obtain ⟨nn, hnn⟩ : ∃ nn, nn = n - hiW a e := ⟨_, rfl⟩
  obtain ⟨cc, hcc⟩ : ∃ cc, cc = ct + hiW a e := ⟨_, rfl⟩
  have c1 : w.cell? ⟨p, 1, none⟩ = some (.int .i64 a.epoch) := by rw [blk_cell H.ks.blk, H.ks.a1]
  have hpl := lt_of_block H.ks.blk
  have hBG := fun y (hy : Below w.heap.size w y) => hide (begin_ok (H.far (far_below (E := fun _ => False) hy) (fun _ _ h => h)) hs hct O e he hem hnw)
  rw [← hnn, ← hcc] at hBG ⊢
  clear hnn hcc hnw hs hct
  clear n
  have hlg : (helloIt a e).logs = a.logs := rfl
  have hepE : (helloIt a e).epoch = e := rfl
  obtain ⟨a2, ha2⟩ : ∃ a2, a2 = helloIt a e := ⟨_, rfl⟩
  rw [← ha2] at hBG hlg hepE ⊢
  have hwb := wel_bytes (a.logs 0).length (a.logs 1).length (a.logs 2).length
  have hl0 := H.ks.loglen (i := 0) (by omega)
  have hl1 := H.ks.loglen (i := 1) (by omega)
  have hl2 := H.ks.loglen (i := 2) (by omega)
  obtain ⟨n0, hn0⟩ : ∃ n, n = (a.logs 0).length := ⟨_, rfl⟩
  obtain ⟨n1, hn1⟩ : ∃ n, n = (a.logs 1).length := ⟨_, rfl⟩
  obtain ⟨n2, hn2⟩ : ∃ n, n = (a.logs 2).length := ⟨_, rfl⟩
  obtain ⟨wel, hwel⟩ : ∃ v, v = welB a := ⟨_, rfl⟩
  have hwv : wel = le4S (a.logs 0).length ++ le4S (a.logs 1).length ++ le4S (a.logs 2).length := hwel
  rw [← hwel]
  rw [← hn0, ← hn1, ← hn2] at hwv hwb
  rw [← hwv] at hwb
  rw [← hn0] at hl0
  rw [← hn1] at hl1
  rw [← hn2] at hl2
  have hWB := fun y => hide (welcomeBody_any n0 n1 n2 (by omega) (by omega) (by omega) y)
  rw [hwb] at hWB
  have HNN := hide (And.intro hn0 (And.intro hn1 (And.intro hn2 (And.intro hlg hepE))))
  obtain ⟨ep, hep⟩ : ∃ ep, ep = a.epoch := ⟨_, rfl⟩
  rw [← hep] at c1 he
  have hltI : ¬ (e : Int) < (ep : Int) := by omega
  have hUl := hide H.lt
  have DD := hide (rsAt_new w #[.int .i64 1, .int .i64 e, .int .i64 s, .int .i64 q, .string b] zFr)
  clear H hep ha2 hlg hepE hn0 hn1 hn2 hwel hwv hwb
  unfold ptrTo at *
  go_enter Tryz.func109, Tryz.ntmps109
  go_upto_region 1 with fail
  refine wp_world (RsAt w #[.int .i64 1, .int .i64 e, .int .i64 s, .int .i64 q, .string b] zFr) (unhide DD) ?_
  clear DD
  intro x X
  have y1 := blk_cell (i := 1) X.box
  simp at y1
  have z1 := (X.bel.cell (p := ⟨p, 1, none⟩) hpl).trans c1
  have HX := hide X
  clear X
  go_quiet (fail)
  go_upto_region 3 with fail
  refine wp_world (RsAt w #[.int .i64 1, .int .i64 e, .int .i64 s, .int .i64 q, .string b] zFr) ((unhide HX).drewN _) ?_
  clear HX y1 z1
  intro x2 X
  have y1 := blk_cell (i := 1) X.box
  simp at y1
  have hT := hide (unhide (hBG x2 X.bel))
  have HX := hide X
  clear X hBG
  go_upto_region 6 with (go_at_call 160; refine (unhide hT).mono ?_; rintro r y ⟨rfl, hk⟩)
  obtain ⟨sh2, st2, ⟨c2, K2, F2, N2, t1, t2⟩, hs2, O2⟩ := hk
  have hnE : ∀ k, w.heap.size ≤ k → ¬ PkU p c k := fun k hk h => by have := (unhide hUl) k h; omega
  have hgx := (unhide HX).lt
  have hys := F2.size
  obtain ⟨g7, hg7⟩ : ∃ g7, g7 = y.heap.size := ⟨_, rfl⟩
  have HR2 := hide (F2.blk (unhide HX).res (hnE _ (by omega)))
  have HK2 := hide K2
  have HF2 := hide F2
  have HN2 := hide (And.intro N2 (And.intro t1 (And.intro t2 (And.intro hs2 O2))))
  clear hT K2 F2 N2 t1 t2 hs2 O2 y1
  go_upto_region 7 with fail
  rw [← hg7]
  refine wp_world (fun z => PkAt z p a2.epoch a2.logs sh2 st2 c2 ∧ Far (PkU p c) x2 z ∧ z.heap[w.heap.size + 1]? = some (.cells zFr 41 (0, 0)) ∧ z.heap[g7]? = some (.cells #[.int .i64 0, .int .i64 0, .int .i64 0] 98 (0, 0))) ?_ ?_
  · have hb : ∀ o, Below y.heap.size y (y.alloc o) := fun o => (Below.refl _ _).alloc (Nat.le_refl _) o
    refine ⟨(unhide HK2).far (far_below (E := fun _ => False) (hb _)) (fun _ _ h => h), (unhide HF2).trans (far_below (E := fun _ => False) (hb _)) (fun _ _ h => h.elim), ((hb _).block _ (by omega)).trans (unhide HR2), by rw [hg7]; exact heap_alloc_new _ _⟩
  have hg7w : w.heap.size + 1 < g7 := by omega
  have hx2g : x2.heap.size ≤ g7 := by omega
  clear HR2 HK2 HF2 hg7 hys
  rintro x3 ⟨K3, F3, hrx, hgx3⟩
  have HQ := hide (And.intro K3 (And.intro F3 (And.intro hrx hgx3)))
  clear K3 F3 hrx hgx3
  go_wp2
  go_loopw [8, 29] (fun _ i wr => ∃ j : Nat, j ≤ 3 ∧ i = .int .i64 j ∧ PkAt wr p a2.epoch a2.logs sh2 st2 c2 ∧ Far (PkU p c) x2 wr ∧ wr.heap[w.heap.size + 1]? = some (.cells zFr 41 (0, 0)) ∧ wr.heap[g7]? = some (.cells #[.int .i64 (if 0 < j then n0 else 0 : Nat), .int .i64 (if 1 < j then n1 else 0 : Nat), .int .i64 (if 2 < j then n2 else 0 : Nat)] 98 (0, 0))) (fun _ i _ => 3 - (intOf i).toNat)
  case atStart =>
    obtain ⟨K3, F3, hrx, hgx3⟩ := unhide HQ
    exact ⟨0, by omega, rfl, K3, F3, hrx, by simpa using hgx3⟩
  case round =>
    obtain ⟨j, hj, rfl, K, F, hr, hg⟩ := hrel
    clear HQ
    have hngp : ¬ PkU p c2 g7 := pk_not_cells K hg (by decide) (by decide) (by decide) (by decide) (by decide) (by decide) (by decide) (by decide)
    obtain ⟨ea, eb, ec, ed, ee⟩ := unhide HNN
    obtain ⟨ad0, cap0, _, c0⟩ := K.ks.logc (i := 0) (by omega)
    obtain ⟨ad1, cap1, _, c1'⟩ := K.ks.logc (i := 1) (by omega)
    obtain ⟨ad2, cap2, _, c2'⟩ := K.ks.logc (i := 2) (by omega)
    rw [ed, ← ea] at c0
    rw [ed, ← eb] at c1'
    rw [ed, ← ec] at c2'
    have hL0 := hide (sinkLast_any wr p 2 n0 cap0 ad0 c0)
    have hL1 := hide (sinkLast_any wr p 5 n1 cap1 ad1 c1')
    have hL2 := hide (sinkLast_any wr p 8 n2 cap2 ad2 c2')
    have hnext : ∀ (k : Nat) (v : Value), PkAt (wr.setCell ⟨g7, k, none⟩ v) p a2.epoch a2.logs sh2 st2 c2 ∧ Far (PkU p c) x2 (wr.setCell ⟨g7, k, none⟩ v) ∧ (wr.setCell ⟨g7, k, none⟩ v).heap[w.heap.size + 1]? = some (.cells zFr 41 (0, 0)) := fun k v => by
      have hf := far_set wr g7 k v
      exact ⟨K.far hf (fun k hk e => hngp (by rw [← e]; exact hk)), F.trans hf (fun k hk e => by omega), hf.blk hr (by omega)⟩
    have HNX := hide hnext
    have hset := fun k v => blk_set (j := k) (v := v) hg
    have g0 := blk_cell (i := 0) hg
    have g1 := blk_cell (i := 1) hg
    have g2 := blk_cell (i := 2) hg
    have f0 := blk_free (i := 0) hg
    have f1 := blk_free (i := 1) hg
    have f2 := blk_free (i := 2) hg
    have HST := hide hset
    have HKK := hide K
    have HFF := hide F
    have HRR := hide hr
    have HGG := hide hg
    rcases (show j = 0 ∨ j = 1 ∨ j = 2 ∨ j = 3 by omega) with rfl | rfl | rfl | rfl
    · simp at g0
      clear K F hr hg hnext hset c0 c1' c2' ea eb ec ed ee g1 g2
      go_wp2_with (go_at_call 161; refine (unhide hL0).mono ?_; rintro r y ⟨rfl, rfl⟩)
      refine ⟨⟨1, by omega, by go_num, ?_⟩, by simp [intOf]⟩
      obtain ⟨h1, h2, h3⟩ := (unhide HNX) 0 (.int .i64 n0)
      exact ⟨h1, h2, h3, by simpa using (unhide HST) 0 (.int .i64 n0)⟩
    · simp at g1
      clear K F hr hg hnext hset c0 c1' c2' ea eb ec ed ee g0 g2
      go_wp2_with (go_at_call 161; refine (unhide hL1).mono ?_; rintro r y ⟨rfl, rfl⟩)
      refine ⟨⟨2, by omega, by go_num, ?_⟩, by simp [intOf]⟩
      obtain ⟨h1, h2, h3⟩ := (unhide HNX) 1 (.int .i64 n1)
      exact ⟨h1, h2, h3, by simpa using (unhide HST) 1 (.int .i64 n1)⟩
    · simp at g2
      clear K F hr hg hnext hset c0 c1' c2' ea eb ec ed ee g0 g1
      go_wp2_with (go_at_call 161; refine (unhide hL2).mono ?_; rintro r y ⟨rfl, rfl⟩)
      refine ⟨⟨3, by omega, by go_num, ?_⟩, by simp [intOf]⟩
      obtain ⟨h1, h2, h3⟩ := (unhide HNX) 2 (.int .i64 n2)
      exact ⟨h1, h2, h3, by simpa using (unhide HST) 2 (.int .i64 n2)⟩
    · simp at g0 g1 g2
      have c14 : wr.cell? ⟨p, 1, none⟩ = some (.int .i64 e) := by rw [blk_cell K.ks.blk, K.ks.a1, ee]
      have hpx := lt_of_block K.ks.blk
      have hgl := lt_of_block hg
      clear K F hr hg hnext hset c0 c1' c2' ea eb ec ed ee hL0 hL1 hL2
      go_upto_region 12 with fail
      refine wp_region_foot (by kernel_rfl)
        [fun v _ => v = .pointer (some ⟨p, 0, none⟩), fun v _ => v = .pointer (some ⟨p, 0, none⟩), fun v _ => v = .pointer (some ⟨p, 1, none⟩), fun v _ => v = .int .i64 e, fun v _ => v = .agg #[.int .i64 n0, .int .i64 n1, .int .i64 n2], fun v _ => v = .string wel, fun v _ => v = .agg #[.int .i64 2, .int .i64 e, .int .i64 0, .int .i64 0, .string wel],
         fun _ z => z.heap[w.heap.size + 1]? = some (.cells #[.int .i64 2, .int .i64 e, .int .i64 0, .int .i64 0, .string wel] 41 (0, 0)), fun v _ => v = .int .i64 0]
        [[(0, none)], [(41, some 0)], [(42, some 1)], [(43, some 2)], [(7, none)], [(45, some 4)], [(44, some 3), (46, some 5)], [(4, none), (47, some 6)], []] [some 41, some 42, some 43, some 44, some 45, some 46, some 47, none, some 5] [false, false, false, false, false, true, false, false, false, false, false, false, false, false, false, false, false, false, false, false, false, false, false, false, false, false, false, false, false, false, false, false, false, false, false, false, false, false, false, false, false, true, true, true, true, true, true, true]
        [(7, fun k => k = w.heap.size + 1)]
        (by kernel_rfl) (by kernel_rfl) (by kernel_rfl) (by kernel_rfl) (by kernel_rfl) ?_ ?_ ?_ ?_
      · repeat' (first | exact stable_eq _ | exact stable_blk _ _ | exact trivial | apply And.intro)
      · repeat' (first | exact trivial | exact .inl rfl | exact .inr (.inr (stableF_eq _ _)) | apply And.intro)
      · refine ⟨?_, ?_, ?_, ?_, ?_, ?_, ?_, ?_, ?_, trivial⟩
        case refine_8 =>
          intro a' z hb hf
          simp only [PlanFacts, List.getD_cons_zero, List.getD_cons_succ, Array.getD_eq_getD_getElem?] at hf
          try simp at hf
          have q0 := hb.blk (unhide HRR) (by
            rintro ⟨q, hq, g1, g2, g3⟩
            simp at hq
            subst hq
            exact g1 rfl)
          clear hb
          rw [if_pos (by rfl)]
          refine wp_store_row 41 (.tmp 4) (.tmp 47) rfl (w.heap.size + 1) #[.int .i64 2, .int .i64 e, .int .i64 0, .int .i64 0, .string wel] (by simp [Act.eval, hf]) (by simp [Act.eval, hf]) 41 _ q0 (by rw [size_frame]; rfl) rfl (by rw [Array.all_eq_true_iff_forall_mem]; intro u hu; simp at hu; rcases hu with rfl | rfl | rfl | rfl | rfl <;> rfl) ?_
          exact ⟨_, rfl, footOf_of (.head _) (far_setRow _ _ _), setRow_heap _ _ _ _ _ _ q0⟩
        case refine_9 =>
          intro a' z hb hf
          clear hb
          go_simp
          exact ⟨_, rfl, Far.refl _ _, rfl⟩
        all_goals
          intro a' z hb hf
          have hbz : Below wr.heap.size wr z := foot_below hb (by intro q hq; simp at hq; subst hq; show depB _ 7 _ = true; decide +kernel)
          have z1 := (hbz.cell (p := ⟨p, 1, none⟩) hpx).trans c14
          have e0 := (hbz.cell (p := ⟨g7, 0, none⟩) hgl).trans g0
          have e1 := (hbz.cell (p := ⟨g7, 1, none⟩) hgl).trans g1
          have e2 := (hbz.cell (p := ⟨g7, 2, none⟩) hgl).trans g2
          clear hb hbz
          simp only [PlanFacts, List.getD_cons_zero, List.getD_cons_succ, Array.getD_eq_getD_getElem?] at hf
          try simp at hf
          go_simp
          first
            | exact ⟨_, rfl, Far.refl _ _, rfl⟩
            | (refine (unhide (hWB z)).mono ?_; rintro r z2 ⟨rfl, hb2⟩; exact ⟨_, rfl, far_below hb2, rfl⟩)
            | skip
      · intro f z hF hwd
        have h8 := hwd.2.2.2.2.2.2.2.1
        have h9 := hwd.2.2.2.2.2.2.2.2.1
        have q0 : z.cell? ⟨w.heap.size + 1, 0, none⟩ = some (.int .i64 2) := blk_cell (i := 0) h8
        have q1 : z.cell? ⟨w.heap.size + 1, 1, none⟩ = some (.int .i64 e) := blk_cell (i := 1) h8
        have q2 : z.cell? ⟨w.heap.size + 1, 2, none⟩ = some (.int .i64 0) := blk_cell (i := 2) h8
        have q3 : z.cell? ⟨w.heap.size + 1, 3, none⟩ = some (.int .i64 0) := blk_cell (i := 3) h8
        have q4 : z.cell? ⟨w.heap.size + 1, 4, none⟩ = some (.string wel) := blk_cell (i := 4) h8
        have hF : Far (fun k => k = w.heap.size + 1) wr z := hF.mono (fun k _ h => by
          obtain ⟨q, hq, h⟩ := h
          simp at hq
          subst hq
          exact h)
        have HFZ := hide hF
        clear hwd hF h8
        simp only [mergeT, h9]
        generalize f 41 = x41
        generalize f 42 = x42
        generalize f 43 = x43
        generalize f 44 = x44
        generalize f 45 = x45
        generalize f 46 = x46
        generalize f 47 = x47
        go_simp
        go_wp2
        refine bodyPost_ret (v := .tuple #[.agg #[.int .i64 2, .int .i64 e, .int .i64 0, .int .i64 0, .string wel], .int .i64 0]) (by simp [results, Tryz.results109, go_sem, q0, q1, q2, q3, q4]) rfl ⟨rfl, ?_⟩
        obtain ⟨N2, t1, t2, hs2, O2⟩ := unhide HN2
        have hxb := (unhide HX).bel
        have hFz := unhide HFZ
        have hres : ¬ PkU p c2 (w.heap.size + 1) := pk_not_cells (unhide HKK) (unhide HRR) (by decide) (by decide) (by decide) (by decide) (by decide) (by decide) (by decide) (by decide)
        refine ⟨sh2, st2, ⟨c2, (unhide HKK).far hFz (fun k hk e => hres (by rw [← e]; exact hk)), ?_, fun k hk => (N2 k hk).imp id (fun h => Nat.le_trans hxb.size h), t1, t2⟩, hs2, O2⟩
        exact ((far_below (E := PkU p c) hxb).trans (unhide HFF) (fun _ _ h => h)).trans hFz (fun k hk e => by omega)
end Go.Proofs.YtamafdcnbcoegaaGreat
namespace Go.Proofs.YtamafdcnbcoegaaGreat
open Go.RowKit
set_option maxRecDepth 100000 in
set_option maxHeartbeats 4000000 in
theorem answerData_bad {op ct n : Nat} {w : World} {p : Nat} {a : Mod.Sk} {sh : Nat → List (Nat × Value)} {st : Mod.Stv} {c : Sv} (H : PkAt w p a.epoch a.logs sh st c) (hs : Alv op ct n st a.epoch a.logs) (hct : ct + 1000 < 18446744073709551616) (G : SkGood a) (M : SkMore a) (O : OnSh a.held sh) (i q : Nat) (hi : i < 3) (hq : q ≤ 2147483647) (b : ByteArray) (hb : b.size ≤ 20) (hnw : 1 ≤ n ∧ n ≤ (a.commits 3 a.epoch i q b).length) :
    Calls Tryz.prog 110 #[ptrTo p, .agg #[.int .i64 3, .int .i64 a.epoch, .int .i64 i, .int .i64 q, .string b]] w fun r z =>
      r = .returned (.tuple #[.agg zFr, .int .i64 4]) ∧ DeadAt op w z p a.epoch (grown a i ((a.commits 3 a.epoch i q b).take (n - 1))).logs c := by
  have c1 : w.cell? ⟨p, 1, none⟩ = some (.int .i64 a.epoch) := by rw [blk_cell H.ks.blk, H.ks.a1]
  have hpl := lt_of_block H.ks.blk
  have hTK := fun y (hy : Below w.heap.size w y) => hide (take_bad (H.far (far_below (E := fun _ => False) hy) (fun _ _ h => h)) hs hct G M O a.epoch i q hi hq b hb hnw)
  clear hnw
  obtain ⟨lg, hlg⟩ : ∃ lg, lg = (grown a i ((a.commits 3 a.epoch i q b).take (n - 1))).logs := ⟨_, rfl⟩
  rw [← hlg] at hTK ⊢
  obtain ⟨ep, hep⟩ : ∃ ep, ep = a.epoch := ⟨_, rfl⟩
  rw [← hep] at c1 hTK ⊢
  have hneb : ((ep : Int) != (ep : Int)) = false := by simp
  have hUl := hide H.lt
  have DD := hide (rsAt_new w #[.int .i64 3, .int .i64 ep, .int .i64 i, .int .i64 q, .string b] zFr)
  have hi0 : (0 : Int) ≤ (i : Int) := by omega
  have hi3 : (i : Int) < 3 := by omega
  clear hs hct hlg
  clear n
  clear H hep
  unfold ptrTo at *
  go_enter Tryz.func110, Tryz.ntmps110
  go_upto_region 1 with fail
  refine wp_world (RsAt w #[.int .i64 3, .int .i64 ep, .int .i64 i, .int .i64 q, .string b] zFr) (unhide DD) ?_
  clear DD
  intro x X
  have y1 := blk_cell (i := 1) X.box
  simp at y1
  have z1 := (X.bel.cell (p := ⟨p, 1, none⟩) hpl).trans c1
  have HX := hide X
  clear X
  go_quiet (fail)
  go_upto_region 3 with fail
  refine wp_world (RsAt w #[.int .i64 3, .int .i64 ep, .int .i64 i, .int .i64 q, .string b] zFr) ((unhide HX).drewN _) ?_
  clear HX y1 z1
  intro x2 X
  have y0 := blk_cell (i := 0) X.box
  have y1 := blk_cell (i := 1) X.box
  have y2 := blk_cell (i := 2) X.box
  have y3 := blk_cell (i := 3) X.box
  have y4 := blk_cell (i := 4) X.box
  simp at y0 y1 y2 y3 y4
  have hT := hide (unhide (hTK x2 X.bel))
  have HX := hide X
  clear X hTK
  go_wp2_with (go_at_call 163; refine (unhide hT).mono ?_; rintro r y ⟨rfl, hk⟩; obtain ⟨sh2, st2, ⟨c2, K2, F2, N2, t1, t2⟩, hd2⟩ := hk; have hnE : ∀ k, w.heap.size ≤ k → ¬ PkU p c k := fun k hk h => (by have := (unhide hUl) k h; omega); have hgx := (unhide HX).lt; have hres := F2.blk (unhide HX).res (hnE _ (by omega)); have hnp : ¬ PkU p c2 (w.heap.size + 1) := pk_not_cells K2 hres (by decide) (by decide) (by decide) (by decide) (by decide) (by decide) (by decide) (by decide); have hxb := (unhide HX).bel; have HD := fun z (hz : Far (fun k => k = w.heap.size + 1) y z) => hide (show DeadAt op w z p ep lg c from ⟨sh2, st2, ⟨c2, K2.far hz (fun k hk e => hnp (by rw [← e]; exact hk)), ((far_below (E := PkU p c) hxb).trans F2 (fun _ _ h => h)).trans hz (fun k hk e => by omega), fun k hk => (N2 k hk).imp id (fun h => Nat.le_trans hxb.size h), t1, t2⟩, hd2⟩); have q0 : y.cell? ⟨w.heap.size + 1, 0, none⟩ = some (.int .i64 0) := blk_cell (i := 0) hres; have q1 : y.cell? ⟨w.heap.size + 1, 1, none⟩ = some (.int .i64 0) := blk_cell (i := 1) hres; have q2 : y.cell? ⟨w.heap.size + 1, 2, none⟩ = some (.int .i64 0) := blk_cell (i := 2) hres; have q3 : y.cell? ⟨w.heap.size + 1, 3, none⟩ = some (.int .i64 0) := blk_cell (i := 3) hres; have q4 : y.cell? ⟨w.heap.size + 1, 4, none⟩ = some (.string ⟨#[]⟩) := blk_cell (i := 4) hres; have fr0 := blk_free (i := 0) hres; have fr1 := blk_free (i := 1) hres; have fr2 := blk_free (i := 2) hres; have fr3 := blk_free (i := 3) hres; have fr4 := blk_free (i := 4) hres; have HRES := hide hres; clear hres hnp; clear K2 F2 N2 t1 t2 hd2 hT HX hnE y0 y1 y2 y3 y4)
  refine bodyPost_ret (v := .tuple #[.agg zFr, .int .i64 4]) (by simp [results, Tryz.results110, go_sem, zFr, q0, q1, q2, q3, q4]) rfl ⟨rfl, ?_⟩
  have fs := fun x i v => far_set x (w.heap.size + 1) i v
  exact unhide (HD _ (((((fs _ _ _).trans (fs _ _ _) (fun _ _ h => h)).trans (fs _ _ _) (fun _ _ h => h)).trans (fs _ _ _) (fun _ _ h => h)).trans (fs _ _ _) (fun _ _ h => h)))
set_option maxRecDepth 100000 in
set_option maxHeartbeats 4000000 in
theorem answerHello_bad {op ct n : Nat} {w : World} {p : Nat} {a : Mod.Sk} {sh : Nat → List (Nat × Value)} {st : Mod.Stv} {c : Sv} (H : PkAt w p a.epoch a.logs sh st c) (hs : Alv op ct n st a.epoch a.logs) (hct : ct + 1000 < 18446744073709551616) (O : OnSh a.held sh) (e : Nat) (s q : Int) (b : ByteArray) (he : a.epoch ≤ e) (hem : e ≤ 2147483647) (hnw : 1 ≤ n ∧ n ≤ hiW a e) :
    Calls Tryz.prog 109 #[ptrTo p, .agg #[.int .i64 1, .int .i64 e, .int .i64 s, .int .i64 q, .string b]] w fun r z =>
      r = .returned (.tuple #[.agg zFr, .int .i64 4]) ∧ DeadAt op w z p a.epoch a.logs c := by
  have c1 : w.cell? ⟨p, 1, none⟩ = some (.int .i64 a.epoch) := by rw [blk_cell H.ks.blk, H.ks.a1]
  have hpl := lt_of_block H.ks.blk
  have hBG := fun y (hy : Below w.heap.size w y) => hide (begin_bad (H.far (far_below (E := fun _ => False) hy) (fun _ _ h => h)) hs hct O e he hem hnw)
  clear hnw hs hct
  clear n
  obtain ⟨lg, hlg⟩ : ∃ lg, lg = a.logs := ⟨_, rfl⟩
  rw [← hlg] at hBG ⊢
  obtain ⟨ep, hep⟩ : ∃ ep, ep = a.epoch := ⟨_, rfl⟩
  rw [← hep] at c1 he hBG ⊢
  have hltI : ¬ (e : Int) < (ep : Int) := by omega
  have hUl := hide H.lt
  have DD := hide (rsAt_new w #[.int .i64 1, .int .i64 e, .int .i64 s, .int .i64 q, .string b] zFr)
  clear H hep hlg
  unfold ptrTo at *
  go_enter Tryz.func109, Tryz.ntmps109
  go_upto_region 1 with fail
  refine wp_world (RsAt w #[.int .i64 1, .int .i64 e, .int .i64 s, .int .i64 q, .string b] zFr) (unhide DD) ?_
  clear DD
  intro x X
  have y1 := blk_cell (i := 1) X.box
  simp at y1
  have z1 := (X.bel.cell (p := ⟨p, 1, none⟩) hpl).trans c1
  have HX := hide X
  clear X
  go_quiet (fail)
  go_upto_region 3 with fail
  refine wp_world (RsAt w #[.int .i64 1, .int .i64 e, .int .i64 s, .int .i64 q, .string b] zFr) ((unhide HX).drewN _) ?_
  clear HX y1 z1
  intro x2 X
  have y1 := blk_cell (i := 1) X.box
  simp at y1
  have hT := hide (unhide (hBG x2 X.bel))
  have HX := hide X
  clear X hBG
  go_wp2_with (go_at_call 160; refine (unhide hT).mono ?_; rintro r y ⟨rfl, hk⟩; obtain ⟨sh2, st2, ⟨c2, K2, F2, N2, t1, t2⟩, hd2⟩ := hk; have hnE : ∀ k, w.heap.size ≤ k → ¬ PkU p c k := fun k hk h => (by have := (unhide hUl) k h; omega); have hgx := (unhide HX).lt; have hres := F2.blk (unhide HX).res (hnE _ (by omega)); have hnp : ¬ PkU p c2 (w.heap.size + 1) := pk_not_cells K2 hres (by decide) (by decide) (by decide) (by decide) (by decide) (by decide) (by decide) (by decide); have hxb := (unhide HX).bel; have HD := fun z (hz : Far (fun k => k = w.heap.size + 1) y z) => hide (show DeadAt op w z p ep lg c from ⟨sh2, st2, ⟨c2, K2.far hz (fun k hk e => hnp (by rw [← e]; exact hk)), ((far_below (E := PkU p c) hxb).trans F2 (fun _ _ h => h)).trans hz (fun k hk e => by omega), fun k hk => (N2 k hk).imp id (fun h => Nat.le_trans hxb.size h), t1, t2⟩, hd2⟩); have q0 : y.cell? ⟨w.heap.size + 1, 0, none⟩ = some (.int .i64 0) := blk_cell (i := 0) hres; have q1 : y.cell? ⟨w.heap.size + 1, 1, none⟩ = some (.int .i64 0) := blk_cell (i := 1) hres; have q2 : y.cell? ⟨w.heap.size + 1, 2, none⟩ = some (.int .i64 0) := blk_cell (i := 2) hres; have q3 : y.cell? ⟨w.heap.size + 1, 3, none⟩ = some (.int .i64 0) := blk_cell (i := 3) hres; have q4 : y.cell? ⟨w.heap.size + 1, 4, none⟩ = some (.string ⟨#[]⟩) := blk_cell (i := 4) hres; have fr0 := blk_free (i := 0) hres; have fr1 := blk_free (i := 1) hres; have fr2 := blk_free (i := 2) hres; have fr3 := blk_free (i := 3) hres; have fr4 := blk_free (i := 4) hres; have HRES := hide hres; clear hres hnp; clear K2 F2 N2 t1 t2 hd2 hT HX hnE y1)
  refine bodyPost_ret (v := .tuple #[.agg zFr, .int .i64 4]) (by simp [results, Tryz.results109, go_sem, zFr, q0, q1, q2, q3, q4]) rfl ⟨rfl, ?_⟩
  have fs := fun x i v => far_set x (w.heap.size + 1) i v
  exact unhide (HD _ (((((fs _ _ _).trans (fs _ _ _) (fun _ _ h => h)).trans (fs _ _ _) (fun _ _ h => h)).trans (fs _ _ _) (fun _ _ h => h)).trans (fs _ _ _) (fun _ _ h => h)))
end Go.Proofs.YtamafdcnbcoegaaGreat
namespace Go.Proofs.YtamafdcnbcoegaaGreat
open Go.RowKit

set_option maxRecDepth 100000 in
set_option maxHeartbeats 4000000 in
theorem answerByH_okR {w : World} {p : Nat} {R : World → World → Prop} (hbeh : ∀ {u v z : World}, R v z → Below u.heap.size u v → R u z) (kd k e s q : Int) (b : ByteArray) (k' e' s' q' : Int) (b' : ByteArray) (hp : Wire.proper k' e' s' q' b' = true)
    (hC : ∀ y, Below w.heap.size w y → Calls Tryz.prog 109 #[ptrTo p, .agg #[.int .i64 k, .int .i64 e, .int .i64 s, .int .i64 q, .string b]] y fun r z => r = .returned (.tuple #[.agg #[.int .i64 k', .int .i64 e', .int .i64 s', .int .i64 q', .string b'], .int .i64 0]) ∧ R y z) :
    Calls Tryz.prog 98 #[.agg #[.int .i64 kd, .func (.func 109) #[ptrTo p] #[]], .agg #[.int .i64 k, .int .i64 e, .int .i64 s, .int .i64 q, .string b]] w fun r z =>
      ∃ lv fs x, r = .returned (.tuple #[lv, .int .i64 0]) ∧ R w x ∧ Below x.heap.size x z ∧ FramesOut x.heap.size z lv fs [⟨(Wire.bytes k' e' s' q' b'.data.toList).toArray⟩] (fun _ => False) := by
  have hFB := fun y => hide (frameBytes_any k' e' s' q' b' y hp)
  have hCC := fun y hy => hide (hC y hy)
  have HB0 := hide (alloc2 w (.cells #[.int .i64 kd, .func (.func 109) #[ptrTo p] #[]] 179) (.cells #[.int .i64 k, .int .i64 e, .int .i64 s, .int .i64 q, .string b] 41))
  clear hC hp
  unfold ptrTo at *
  go_enter Tryz.func98, Tryz.ntmps98
  go_upto_region 1 with fail
  refine wp_world (fun x => x.heap[w.heap.size]? = some (.cells #[.int .i64 kd, .func (.func 109) #[.pointer (some ⟨p, 0, none⟩)] #[]] 179 (0, 0)) ∧ x.heap[w.heap.size + 1]? = some (.cells #[.int .i64 k, .int .i64 e, .int .i64 s, .int .i64 q, .string b] 41 (0, 0)) ∧ Below w.heap.size w x) (unhide HB0) ?_
  clear HB0
  rintro x ⟨h0, h1, hb⟩
  have y1 := blk_cell (i := 1) h0
  have z0 := blk_cell (i := 0) h1
  have z1 := blk_cell (i := 1) h1
  have z2 := blk_cell (i := 2) h1
  have z3 := blk_cell (i := 3) h1
  have z4 := blk_cell (i := 4) h1
  simp at y1 z0 z1 z2 z3 z4
  have hCX := hide (unhide (hCC x hb))
  have HB := hide hb
  clear h0 h1 hb hCC
  go_upto_region 2 with (go_at_call 109; refine (unhide hCX).mono ?_; rintro r y ⟨rfl, hk⟩)
  obtain ⟨g6, hg6⟩ : ∃ g6, g6 = y.heap.size := ⟨_, rfl⟩
  have HG6 := hide hg6
  rw [← hg6]
  have HK := hide (hbeh hk (unhide HB))
  clear hk hg6
  refine wp_world (fun u => u.heap[g6]? = some (.cells #[.int .i64 k', .int .i64 e', .int .i64 s', .int .i64 q', .string b'] 41 (0, 0)) ∧ Below y.heap.size y u) ?_ ?_
  · rw [unhide HG6]
    exact ⟨heap_alloc_new _ _, (Below.refl _ _).alloc (Nat.le_refl _) _⟩
  clear y1 z0 z1 z2 z3 z4 hCX
  rintro u ⟨h6, hbu⟩
  have z0 := blk_cell (i := 0) h6
  have z1 := blk_cell (i := 1) h6
  have z2 := blk_cell (i := 2) h6
  have z3 := blk_cell (i := 3) h6
  have z4 := blk_cell (i := 4) h6
  simp at z0 z1 z2 z3 z4
  have HU := hide hbu
  clear h6 hbu
  go_wp2_with (go_at_call 92; refine (unhide (hFB _)).mono ?_; rintro r v ⟨bv', rfl, hown, hb2⟩; obtain ⟨ad, cap, rfl, _⟩ := hown.shape; replace hown := hide hown; replace hb2 := hide hb2)
  go_ret2
  have hbv := (unhide hb2)
  have ho := unhide hown
  have hsz := (unhide HU).size
  have hb3 : Below y.heap.size y v := (unhide HU).trans (hbv.mono hsz)
  refine ⟨_, _, y, rfl, unhide HK, hb3.alloc hb3.size _, framesOut_one (World.ownsRow.alloc (ho.mono (by omega)) _) hb3.size (heap_alloc_new _ _)⟩

set_option maxRecDepth 100000 in
set_option maxHeartbeats 4000000 in
theorem answerByD_okR {w : World} {p : Nat} {R : World → World → Prop} (hbeh : ∀ {u v z : World}, R v z → Below u.heap.size u v → R u z) (kd k e s q : Int) (b : ByteArray) (k' e' s' q' : Int) (b' : ByteArray) (hp : Wire.proper k' e' s' q' b' = true)
    (hC : ∀ y, Below w.heap.size w y → Calls Tryz.prog 110 #[ptrTo p, .agg #[.int .i64 k, .int .i64 e, .int .i64 s, .int .i64 q, .string b]] y fun r z => r = .returned (.tuple #[.agg #[.int .i64 k', .int .i64 e', .int .i64 s', .int .i64 q', .string b'], .int .i64 0]) ∧ R y z) :
    Calls Tryz.prog 98 #[.agg #[.int .i64 kd, .func (.func 110) #[ptrTo p] #[]], .agg #[.int .i64 k, .int .i64 e, .int .i64 s, .int .i64 q, .string b]] w fun r z =>
      ∃ lv fs x, r = .returned (.tuple #[lv, .int .i64 0]) ∧ R w x ∧ Below x.heap.size x z ∧ FramesOut x.heap.size z lv fs [⟨(Wire.bytes k' e' s' q' b'.data.toList).toArray⟩] (fun _ => False) := by
  have hFB := fun y => hide (frameBytes_any k' e' s' q' b' y hp)
  have hCC := fun y hy => hide (hC y hy)
  have HB0 := hide (alloc2 w (.cells #[.int .i64 kd, .func (.func 110) #[ptrTo p] #[]] 179) (.cells #[.int .i64 k, .int .i64 e, .int .i64 s, .int .i64 q, .string b] 41))
  clear hC hp
  unfold ptrTo at *
  go_enter Tryz.func98, Tryz.ntmps98
  go_upto_region 1 with fail
  refine wp_world (fun x => x.heap[w.heap.size]? = some (.cells #[.int .i64 kd, .func (.func 110) #[.pointer (some ⟨p, 0, none⟩)] #[]] 179 (0, 0)) ∧ x.heap[w.heap.size + 1]? = some (.cells #[.int .i64 k, .int .i64 e, .int .i64 s, .int .i64 q, .string b] 41 (0, 0)) ∧ Below w.heap.size w x) (unhide HB0) ?_
  clear HB0
  rintro x ⟨h0, h1, hb⟩
  have y1 := blk_cell (i := 1) h0
  have z0 := blk_cell (i := 0) h1
  have z1 := blk_cell (i := 1) h1
  have z2 := blk_cell (i := 2) h1
  have z3 := blk_cell (i := 3) h1
  have z4 := blk_cell (i := 4) h1
  simp at y1 z0 z1 z2 z3 z4
  have hCX := hide (unhide (hCC x hb))
  have HB := hide hb
  clear h0 h1 hb hCC
  go_upto_region 2 with (go_at_call 110; refine (unhide hCX).mono ?_; rintro r y ⟨rfl, hk⟩)
  obtain ⟨g6, hg6⟩ : ∃ g6, g6 = y.heap.size := ⟨_, rfl⟩
  have HG6 := hide hg6
  rw [← hg6]
  have HK := hide (hbeh hk (unhide HB))
  clear hk hg6
  refine wp_world (fun u => u.heap[g6]? = some (.cells #[.int .i64 k', .int .i64 e', .int .i64 s', .int .i64 q', .string b'] 41 (0, 0)) ∧ Below y.heap.size y u) ?_ ?_
  · rw [unhide HG6]
    exact ⟨heap_alloc_new _ _, (Below.refl _ _).alloc (Nat.le_refl _) _⟩
  clear y1 z0 z1 z2 z3 z4 hCX
  rintro u ⟨h6, hbu⟩
  have z0 := blk_cell (i := 0) h6
  have z1 := blk_cell (i := 1) h6
  have z2 := blk_cell (i := 2) h6
  have z3 := blk_cell (i := 3) h6
  have z4 := blk_cell (i := 4) h6
  simp at z0 z1 z2 z3 z4
  have HU := hide hbu
  clear h6 hbu
  go_wp2_with (go_at_call 92; refine (unhide (hFB _)).mono ?_; rintro r v ⟨bv', rfl, hown, hb2⟩; obtain ⟨ad, cap, rfl, _⟩ := hown.shape; replace hown := hide hown; replace hb2 := hide hb2)
  go_ret2
  have hbv := (unhide hb2)
  have ho := unhide hown
  have hsz := (unhide HU).size
  have hb3 : Below y.heap.size y v := (unhide HU).trans (hbv.mono hsz)
  refine ⟨_, _, y, rfl, unhide HK, hb3.alloc hb3.size _, framesOut_one (World.ownsRow.alloc (ho.mono (by omega)) _) hb3.size (heap_alloc_new _ _)⟩

set_option maxRecDepth 100000 in
set_option maxHeartbeats 4000000 in
theorem answerByH_badR {w : World} {p : Nat} {R : World → World → Prop} (hbeh : ∀ {u v z : World}, R v z → Below u.heap.size u v → R u z) (kd k e s q : Int) (b : ByteArray)
    (hC : ∀ y, Below w.heap.size w y → Calls Tryz.prog 109 #[ptrTo p, .agg #[.int .i64 k, .int .i64 e, .int .i64 s, .int .i64 q, .string b]] y fun r z => r = .returned (.tuple #[.agg zFr, .int .i64 4]) ∧ R y z) :
    Calls Tryz.prog 98 #[.agg #[.int .i64 kd, .func (.func 109) #[ptrTo p] #[]], .agg #[.int .i64 k, .int .i64 e, .int .i64 s, .int .i64 q, .string b]] w fun r z =>
      ∃ lv fs x, r = .returned (.tuple #[lv, .int .i64 4]) ∧ R w x ∧ Below x.heap.size x z ∧ FramesOut x.heap.size z lv fs [] (fun _ => False) := by
  have hCC := fun y hy => hide (hC y hy)
  have HB0 := hide (alloc2 w (.cells #[.int .i64 kd, .func (.func 109) #[ptrTo p] #[]] 179) (.cells #[.int .i64 k, .int .i64 e, .int .i64 s, .int .i64 q, .string b] 41))
  clear hC
  unfold zFr at hCC
  unfold ptrTo at *
  go_enter Tryz.func98, Tryz.ntmps98
  go_upto_region 1 with fail
  refine wp_world (fun x => x.heap[w.heap.size]? = some (.cells #[.int .i64 kd, .func (.func 109) #[.pointer (some ⟨p, 0, none⟩)] #[]] 179 (0, 0)) ∧ x.heap[w.heap.size + 1]? = some (.cells #[.int .i64 k, .int .i64 e, .int .i64 s, .int .i64 q, .string b] 41 (0, 0)) ∧ Below w.heap.size w x) (unhide HB0) ?_
  clear HB0
  rintro x ⟨h0, h1, hb⟩
  have y1 := blk_cell (i := 1) h0
  have z0 := blk_cell (i := 0) h1
  have z1 := blk_cell (i := 1) h1
  have z2 := blk_cell (i := 2) h1
  have z3 := blk_cell (i := 3) h1
  have z4 := blk_cell (i := 4) h1
  simp at y1 z0 z1 z2 z3 z4
  have hCX := hide (unhide (hCC x hb))
  have HB := hide hb
  clear h0 h1 hb hCC
  go_wp2_with (go_at_call 109; refine (unhide hCX).mono ?_; rintro r y ⟨rfl, hk⟩; have HK := hide (hbeh hk (unhide HB)); clear hk)
  go_ret2
  exact ⟨_, _, y, rfl, unhide HK, (Below.refl _ _).alloc (Nat.le_refl _) _, framesOut_none _ _⟩

set_option maxRecDepth 100000 in
set_option maxHeartbeats 4000000 in
theorem answerByD_badR {w : World} {p : Nat} {R : World → World → Prop} (hbeh : ∀ {u v z : World}, R v z → Below u.heap.size u v → R u z) (kd k e s q : Int) (b : ByteArray)
    (hC : ∀ y, Below w.heap.size w y → Calls Tryz.prog 110 #[ptrTo p, .agg #[.int .i64 k, .int .i64 e, .int .i64 s, .int .i64 q, .string b]] y fun r z => r = .returned (.tuple #[.agg zFr, .int .i64 4]) ∧ R y z) :
    Calls Tryz.prog 98 #[.agg #[.int .i64 kd, .func (.func 110) #[ptrTo p] #[]], .agg #[.int .i64 k, .int .i64 e, .int .i64 s, .int .i64 q, .string b]] w fun r z =>
      ∃ lv fs x, r = .returned (.tuple #[lv, .int .i64 4]) ∧ R w x ∧ Below x.heap.size x z ∧ FramesOut x.heap.size z lv fs [] (fun _ => False) := by
  have hCC := fun y hy => hide (hC y hy)
  have HB0 := hide (alloc2 w (.cells #[.int .i64 kd, .func (.func 110) #[ptrTo p] #[]] 179) (.cells #[.int .i64 k, .int .i64 e, .int .i64 s, .int .i64 q, .string b] 41))
  clear hC
  unfold zFr at hCC
  unfold ptrTo at *
  go_enter Tryz.func98, Tryz.ntmps98
  go_upto_region 1 with fail
  refine wp_world (fun x => x.heap[w.heap.size]? = some (.cells #[.int .i64 kd, .func (.func 110) #[.pointer (some ⟨p, 0, none⟩)] #[]] 179 (0, 0)) ∧ x.heap[w.heap.size + 1]? = some (.cells #[.int .i64 k, .int .i64 e, .int .i64 s, .int .i64 q, .string b] 41 (0, 0)) ∧ Below w.heap.size w x) (unhide HB0) ?_
  clear HB0
  rintro x ⟨h0, h1, hb⟩
  have y1 := blk_cell (i := 1) h0
  have z0 := blk_cell (i := 0) h1
  have z1 := blk_cell (i := 1) h1
  have z2 := blk_cell (i := 2) h1
  have z3 := blk_cell (i := 3) h1
  have z4 := blk_cell (i := 4) h1
  simp at y1 z0 z1 z2 z3 z4
  have hCX := hide (unhide (hCC x hb))
  have HB := hide hb
  clear h0 h1 hb hCC
  go_wp2_with (go_at_call 110; refine (unhide hCX).mono ?_; rintro r y ⟨rfl, hk⟩; have HK := hide (hbeh hk (unhide HB)); clear hk)
  go_ret2
  exact ⟨_, _, y, rfl, unhide HK, (Below.refl _ _).alloc (Nat.le_refl _) _, framesOut_none _ _⟩

end Go.Proofs.YtamafdcnbcoegaaGreat
namespace Go.Proofs.YtamafdcnbcoegaaGreat
open Go.RowKit

/-- What comes out of a Deliver. -/
def DlR (R : World → World → Prop) (w z : World) (er : Int) (r : Ending) (Fl : List ByteArray) : Prop :=
  ∃ lv fs x, r = .returned (.tuple #[lv, .int .i64 er]) ∧ R w x ∧ Below x.heap.size x z ∧ FramesOut x.heap.size z lv fs Fl (fun _ => False)
set_option maxRecDepth 100000 in
set_option maxHeartbeats 4000000 in
theorem sinkDeliverH_R {w : World} {p : Nat} {a : Mod.Sk} {R : World → World → Prop} {er : Int} {sh : Nat → List (Nat × Value)} {st : Mod.Stv} {c : Sv} (H : PkAt w p a.epoch a.logs sh st c) (hs : st.dk.dead = false) (bs : Value) (hbeh : ∀ {u v z : World}, R v z → Below u.heap.size u v → R u z) (k e s q : Int) (b : ByteArray) (hk : k = 1) {Fl : List ByteArray}
    (hDec : ∀ y, Below w.heap.size w y → Calls Tryz.prog 54 #[bs] y fun r z => r = .returned (.tuple #[.agg #[.int .i64 k, .int .i64 e, .int .i64 s, .int .i64 q, .string b], .int .i64 0]) ∧ Below y.heap.size y z)
    (hC : ∀ y, Below w.heap.size w y → Calls Tryz.prog 98 #[.agg #[.int .i64 1, .func (.func 109) #[ptrTo p] #[]], .agg #[.int .i64 k, .int .i64 e, .int .i64 s, .int .i64 q, .string b]] y fun r z =>
      ∃ lv fs x, r = .returned (.tuple #[lv, .int .i64 er]) ∧ R y x ∧ Below x.heap.size x z ∧ FramesOut x.heap.size z lv fs Fl (fun _ => False)) :
    Calls Tryz.prog 56 #[ptrTo p, bs] w fun r z => DlR R w z er r Fl := by
  have c0 : w.cell? ⟨p, 0, none⟩ = some (ptrTo c.s) := by rw [blk_cell H.ks.blk, H.ks.a0]
  have hID := storeIsDead_any H.stt
  rw [hs] at hID
  have HID := hide hID
  have HDC := hide (hDec w (Below.refl _ _))
  subst hk
  have hCC := fun y hy => hide (hC y hy)
  clear hC
  obtain ⟨ad, cap, hrv, hcap1, hcap2, hcells⟩ := H.rl.shape
  obtain ⟨g, o, rfl, hcl⟩ := hcells (by omega)
  have r0 : w.cell? ⟨g, o, none⟩ = some (.int .i64 1) := by have := hcl 0 (by omega); simpa [rulesOf] using this
  have r1 : w.cell? ⟨g, o + 1, none⟩ = some (.func (.func 109) #[ptrTo p] #[]) := by have := hcl 1 (by omega); simpa [rulesOf] using this
  have r2 : w.cell? ⟨g, o + 2, none⟩ = some (.int .i64 3) := by have := hcl 2 (by omega); simpa [rulesOf] using this
  have r3 : w.cell? ⟨g, o + 2 + 1, none⟩ = some (.func (.func 110) #[ptrTo p] #[]) := by have := hcl 3 (by omega); simpa [rulesOf] using this
  have c11 : w.cell? ⟨p, 11, none⟩ = some (.slice (some ⟨g, o, none⟩) 2 cap) := by rw [blk_cell H.ks.blk, H.ks.ar, hrv]
  have hgl : g < w.heap.size := World.block_lt_of_cell? _ _ r0
  have hpl := lt_of_block H.ks.blk
  clear H hID hDec hcl hcells hrv
  unfold ptrTo at *
  go_enter Tryz.func56, Tryz.ntmps56
  go_upto_region 4 with (first | (go_at_call 86; refine (unhide HID).mono ?_; rintro r y ⟨rfl, hyw⟩; obtain rfl : w = y := hyw.symm) | (go_at_call 54; refine (unhide HDC).mono ?_; rintro r y ⟨rfl, hb⟩))
  obtain ⟨g6, hg6⟩ : ∃ g6, g6 = y.heap.size := ⟨_, rfl⟩
  have hgw : w.heap.size ≤ g6 := by have := hb.size; omega
  have HG6 := hide hg6
  have HB := hide hb
  rw [← hg6]
  clear hg6 hb
  refine wp_world (fun u => u.heap[g6]? = some (.cells #[.int .i64 1, .int .i64 e, .int .i64 s, .int .i64 q, .string b] 41 (0, 0)) ∧ Below w.heap.size w u) ?_ ?_
  · rw [unhide HG6]
    exact ⟨heap_alloc_new _ _, (unhide HB).alloc (unhide HB).size _⟩
  clear HG6 HB c0 HDC HID
  rintro u ⟨h6, hbu⟩
  have d11 := (hbu.cell (p := ⟨p, 11, none⟩) hpl).trans c11
  have H6 := hide h6
  have HU := hide hbu
  clear h6 hbu
  go_wp2
  go_loopw [9, 28] (fun _ i wr => ∃ j : Nat, j ≤ 0 ∧ i = .int .i64 j ∧ wr.heap[g6]? = some (.cells #[.int .i64 1, .int .i64 e, .int .i64 s, .int .i64 q, .string b] 41 (0, 0)) ∧ Below w.heap.size w wr) (fun _ i _ => 3 - (intOf i).toNat)
  case atStart => exact ⟨0, by omega, rfl, unhide H6, unhide HU⟩
  case round =>
    obtain ⟨j, hj, rfl, h6, hb⟩ := hrel
    clear H6 HU d11
    have s0 := (hb.cell (p := ⟨g, o, none⟩) hgl).trans r0
    have s1 := (hb.cell (p := ⟨g, o + 1, none⟩) hgl).trans r1
    have s2 := (hb.cell (p := ⟨g, o + 2, none⟩) hgl).trans r2
    have s3 := (hb.cell (p := ⟨g, o + 2 + 1, none⟩) hgl).trans r3
    have y0 := blk_cell (i := 0) h6
    have y1 := blk_cell (i := 1) h6
    have y2 := blk_cell (i := 2) h6
    have y3 := blk_cell (i := 3) h6
    have y4 := blk_cell (i := 4) h6
    simp at y0 y1 y2 y3 y4
    have h6l := lt_of_block h6
    have HH6 := hide h6
    have HBB := hide hb
    have hnext : ∀ ob, (wr.alloc ob).heap[g6]? = some (.cells #[.int .i64 1, .int .i64 e, .int .i64 s, .int .i64 q, .string b] 41 (0, 0)) ∧ Below w.heap.size w (wr.alloc ob) := fun ob => ⟨(hao _ _ h6l).trans h6, hb.alloc hb.size _⟩
    have HNX := hide hnext
    clear h6 hb hnext r0 r1 r2 r3
    have hsf1 : ∀ (ad : Addr) (m : Mode) (z : World), (store ad (.func (.func 109) #[.pointer (some ⟨p, 0, none⟩)] #[]) m).run Tryz.prog z = stored Tryz.prog z ad (.func (.func 109) #[.pointer (some ⟨p, 0, none⟩)] #[]) m := fun ad m z => run_store _ _ _ _ _ rfl
    have hsf2 : ∀ (ad : Addr) (m : Mode) (z : World), (store ad (.func (.func 110) #[.pointer (some ⟨p, 0, none⟩)] #[]) m).run Tryz.prog z = stored Tryz.prog z ad (.func (.func 110) #[.pointer (some ⟨p, 0, none⟩)] #[]) m := fun ad m z => run_store _ _ _ _ _ rfl
    obtain rfl : j = 0 := by omega
    focus
      go_wp2_with (go_at_call 98; refine (unhide (hCC _ (by first | exact ((unhide HNX) _).2 | exact (unhide HBB)))).mono ?_; rintro r z ⟨lv, fs, x, rfl, k1, k2, k3⟩; replace k1 := hide k1; replace k2 := hide k2; replace k3 := hide k3)
      go_ret2
      exact ⟨lv, fs, x, rfl, hbeh (unhide k1) (by first | exact ((unhide HNX) _).2 | exact (unhide HBB)), unhide k2, unhide k3⟩

set_option maxRecDepth 100000 in
set_option maxHeartbeats 4000000 in
theorem sinkDeliverD_R {w : World} {p : Nat} {a : Mod.Sk} {R : World → World → Prop} {er : Int} {sh : Nat → List (Nat × Value)} {st : Mod.Stv} {c : Sv} (H : PkAt w p a.epoch a.logs sh st c) (hs : st.dk.dead = false) (bs : Value) (hbeh : ∀ {u v z : World}, R v z → Below u.heap.size u v → R u z) (k e s q : Int) (b : ByteArray) (hk : k = 3) {Fl : List ByteArray}
    (hDec : ∀ y, Below w.heap.size w y → Calls Tryz.prog 54 #[bs] y fun r z => r = .returned (.tuple #[.agg #[.int .i64 k, .int .i64 e, .int .i64 s, .int .i64 q, .string b], .int .i64 0]) ∧ Below y.heap.size y z)
    (hC : ∀ y, Below w.heap.size w y → Calls Tryz.prog 98 #[.agg #[.int .i64 3, .func (.func 110) #[ptrTo p] #[]], .agg #[.int .i64 k, .int .i64 e, .int .i64 s, .int .i64 q, .string b]] y fun r z =>
      ∃ lv fs x, r = .returned (.tuple #[lv, .int .i64 er]) ∧ R y x ∧ Below x.heap.size x z ∧ FramesOut x.heap.size z lv fs Fl (fun _ => False)) :
    Calls Tryz.prog 56 #[ptrTo p, bs] w fun r z => DlR R w z er r Fl := by
  have c0 : w.cell? ⟨p, 0, none⟩ = some (ptrTo c.s) := by rw [blk_cell H.ks.blk, H.ks.a0]
  have hID := storeIsDead_any H.stt
  rw [hs] at hID
  have HID := hide hID
  have HDC := hide (hDec w (Below.refl _ _))
  subst hk
  have hCC := fun y hy => hide (hC y hy)
  clear hC
  obtain ⟨ad, cap, hrv, hcap1, hcap2, hcells⟩ := H.rl.shape
  obtain ⟨g, o, rfl, hcl⟩ := hcells (by omega)
  have r0 : w.cell? ⟨g, o, none⟩ = some (.int .i64 1) := by have := hcl 0 (by omega); simpa [rulesOf] using this
  have r1 : w.cell? ⟨g, o + 1, none⟩ = some (.func (.func 109) #[ptrTo p] #[]) := by have := hcl 1 (by omega); simpa [rulesOf] using this
  have r2 : w.cell? ⟨g, o + 2, none⟩ = some (.int .i64 3) := by have := hcl 2 (by omega); simpa [rulesOf] using this
  have r3 : w.cell? ⟨g, o + 2 + 1, none⟩ = some (.func (.func 110) #[ptrTo p] #[]) := by have := hcl 3 (by omega); simpa [rulesOf] using this
  have c11 : w.cell? ⟨p, 11, none⟩ = some (.slice (some ⟨g, o, none⟩) 2 cap) := by rw [blk_cell H.ks.blk, H.ks.ar, hrv]
  have hgl : g < w.heap.size := World.block_lt_of_cell? _ _ r0
  have hpl := lt_of_block H.ks.blk
  clear H hID hDec hcl hcells hrv
  unfold ptrTo at *
  go_enter Tryz.func56, Tryz.ntmps56
  go_upto_region 4 with (first | (go_at_call 86; refine (unhide HID).mono ?_; rintro r y ⟨rfl, hyw⟩; obtain rfl : w = y := hyw.symm) | (go_at_call 54; refine (unhide HDC).mono ?_; rintro r y ⟨rfl, hb⟩))
  obtain ⟨g6, hg6⟩ : ∃ g6, g6 = y.heap.size := ⟨_, rfl⟩
  have hgw : w.heap.size ≤ g6 := by have := hb.size; omega
  have HG6 := hide hg6
  have HB := hide hb
  rw [← hg6]
  clear hg6 hb
  refine wp_world (fun u => u.heap[g6]? = some (.cells #[.int .i64 3, .int .i64 e, .int .i64 s, .int .i64 q, .string b] 41 (0, 0)) ∧ Below w.heap.size w u) ?_ ?_
  · rw [unhide HG6]
    exact ⟨heap_alloc_new _ _, (unhide HB).alloc (unhide HB).size _⟩
  clear HG6 HB c0 HDC HID
  rintro u ⟨h6, hbu⟩
  have d11 := (hbu.cell (p := ⟨p, 11, none⟩) hpl).trans c11
  have H6 := hide h6
  have HU := hide hbu
  clear h6 hbu
  go_wp2
  go_loopw [9, 28] (fun _ i wr => ∃ j : Nat, j ≤ 1 ∧ i = .int .i64 j ∧ wr.heap[g6]? = some (.cells #[.int .i64 3, .int .i64 e, .int .i64 s, .int .i64 q, .string b] 41 (0, 0)) ∧ Below w.heap.size w wr) (fun _ i _ => 3 - (intOf i).toNat)
  case atStart => exact ⟨0, by omega, rfl, unhide H6, unhide HU⟩
  case round =>
    obtain ⟨j, hj, rfl, h6, hb⟩ := hrel
    clear H6 HU d11
    have s0 := (hb.cell (p := ⟨g, o, none⟩) hgl).trans r0
    have s1 := (hb.cell (p := ⟨g, o + 1, none⟩) hgl).trans r1
    have s2 := (hb.cell (p := ⟨g, o + 2, none⟩) hgl).trans r2
    have s3 := (hb.cell (p := ⟨g, o + 2 + 1, none⟩) hgl).trans r3
    have y0 := blk_cell (i := 0) h6
    have y1 := blk_cell (i := 1) h6
    have y2 := blk_cell (i := 2) h6
    have y3 := blk_cell (i := 3) h6
    have y4 := blk_cell (i := 4) h6
    simp at y0 y1 y2 y3 y4
    have h6l := lt_of_block h6
    have HH6 := hide h6
    have HBB := hide hb
    have hnext : ∀ ob, (wr.alloc ob).heap[g6]? = some (.cells #[.int .i64 3, .int .i64 e, .int .i64 s, .int .i64 q, .string b] 41 (0, 0)) ∧ Below w.heap.size w (wr.alloc ob) := fun ob => ⟨(hao _ _ h6l).trans h6, hb.alloc hb.size _⟩
    have HNX := hide hnext
    clear h6 hb hnext r0 r1 r2 r3
    have hsf1 : ∀ (ad : Addr) (m : Mode) (z : World), (store ad (.func (.func 109) #[.pointer (some ⟨p, 0, none⟩)] #[]) m).run Tryz.prog z = stored Tryz.prog z ad (.func (.func 109) #[.pointer (some ⟨p, 0, none⟩)] #[]) m := fun ad m z => run_store _ _ _ _ _ rfl
    have hsf2 : ∀ (ad : Addr) (m : Mode) (z : World), (store ad (.func (.func 110) #[.pointer (some ⟨p, 0, none⟩)] #[]) m).run Tryz.prog z = stored Tryz.prog z ad (.func (.func 110) #[.pointer (some ⟨p, 0, none⟩)] #[]) m := fun ad m z => run_store _ _ _ _ _ rfl
    rcases (show j = 0 ∨ j = 1 by omega) with rfl | rfl
    focus
      go_wp2
      exact ⟨⟨1, by omega, by go_num, (unhide HNX) _⟩, by simp [intOf]⟩
    focus
      go_wp2_with (go_at_call 98; refine (unhide (hCC _ (by first | exact ((unhide HNX) _).2 | exact (unhide HBB)))).mono ?_; rintro r z ⟨lv, fs, x, rfl, k1, k2, k3⟩; replace k1 := hide k1; replace k2 := hide k2; replace k3 := hide k3)
      go_ret2
      exact ⟨lv, fs, x, rfl, hbeh (unhide k1) (by first | exact ((unhide HNX) _).2 | exact (unhide HBB)), unhide k2, unhide k3⟩

set_option maxRecDepth 100000 in
set_option maxHeartbeats 4000000 in
theorem sinkDeliverN_R {w : World} {p : Nat} {a : Mod.Sk} {R : World → World → Prop} {sh : Nat → List (Nat × Value)} {st : Mod.Stv} {c : Sv} (H : PkAt w p a.epoch a.logs sh st c) (hs : st.dk.dead = false) (hR : R w w) (bs : Value) (k e s q : Int) (b : ByteArray) (hk1 : ¬ k = 1) (hk3 : ¬ k = 3)
    (hDec : ∀ y, Below w.heap.size w y → Calls Tryz.prog 54 #[bs] y fun r z => r = .returned (.tuple #[.agg #[.int .i64 k, .int .i64 e, .int .i64 s, .int .i64 q, .string b], .int .i64 0]) ∧ Below y.heap.size y z) :
    Calls Tryz.prog 56 #[ptrTo p, bs] w fun r z => DlR R w z 0 r [] := by
  have c0 : w.cell? ⟨p, 0, none⟩ = some (ptrTo c.s) := by rw [blk_cell H.ks.blk, H.ks.a0]
  have hID := storeIsDead_any H.stt
  rw [hs] at hID
  have HID := hide hID
  have HDC := hide (hDec w (Below.refl _ _))
  have e1 : ((1 : Int) == k) = false := by simp; omega
  have e3 : ((3 : Int) == k) = false := by simp; omega
  obtain ⟨ad, cap, hrv, hcap1, hcap2, hcells⟩ := H.rl.shape
  obtain ⟨g, o, rfl, hcl⟩ := hcells (by omega)
  have r0 : w.cell? ⟨g, o, none⟩ = some (.int .i64 1) := by have := hcl 0 (by omega); simpa [rulesOf] using this
  have r1 : w.cell? ⟨g, o + 1, none⟩ = some (.func (.func 109) #[ptrTo p] #[]) := by have := hcl 1 (by omega); simpa [rulesOf] using this
  have r2 : w.cell? ⟨g, o + 2, none⟩ = some (.int .i64 3) := by have := hcl 2 (by omega); simpa [rulesOf] using this
  have r3 : w.cell? ⟨g, o + 2 + 1, none⟩ = some (.func (.func 110) #[ptrTo p] #[]) := by have := hcl 3 (by omega); simpa [rulesOf] using this
  have c11 : w.cell? ⟨p, 11, none⟩ = some (.slice (some ⟨g, o, none⟩) 2 cap) := by rw [blk_cell H.ks.blk, H.ks.ar, hrv]
  have hgl : g < w.heap.size := World.block_lt_of_cell? _ _ r0
  have hpl := lt_of_block H.ks.blk
  have HST := hide hR
  clear H hID hDec hcl hcells hrv hR
  unfold ptrTo at *
  go_enter Tryz.func56, Tryz.ntmps56
  go_upto_region 4 with (first | (go_at_call 86; refine (unhide HID).mono ?_; rintro r y ⟨rfl, hyw⟩; obtain rfl : w = y := hyw.symm) | (go_at_call 54; refine (unhide HDC).mono ?_; rintro r y ⟨rfl, hb⟩))
  obtain ⟨g6, hg6⟩ : ∃ g6, g6 = y.heap.size := ⟨_, rfl⟩
  have hgw : w.heap.size ≤ g6 := by have := hb.size; omega
  have HG6 := hide hg6
  have HB := hide hb
  rw [← hg6]
  clear hg6 hb
  refine wp_world (fun u => u.heap[g6]? = some (.cells #[.int .i64 k, .int .i64 e, .int .i64 s, .int .i64 q, .string b] 41 (0, 0)) ∧ Below w.heap.size w u) ?_ ?_
  · rw [unhide HG6]
    exact ⟨heap_alloc_new _ _, (unhide HB).alloc (unhide HB).size _⟩
  clear HG6 HB c0 HDC HID
  rintro u ⟨h6, hbu⟩
  have d11 := (hbu.cell (p := ⟨p, 11, none⟩) hpl).trans c11
  have H6 := hide h6
  have HU := hide hbu
  clear h6 hbu
  go_wp2
  go_loopw [9, 28] (fun _ i wr => ∃ j : Nat, j ≤ 2 ∧ i = .int .i64 j ∧ wr.heap[g6]? = some (.cells #[.int .i64 k, .int .i64 e, .int .i64 s, .int .i64 q, .string b] 41 (0, 0)) ∧ Below w.heap.size w wr) (fun _ i _ => 3 - (intOf i).toNat)
  case atStart => exact ⟨0, by omega, rfl, unhide H6, unhide HU⟩
  case round =>
    obtain ⟨j, hj, rfl, h6, hb⟩ := hrel
    clear H6 HU d11
    have s0 := (hb.cell (p := ⟨g, o, none⟩) hgl).trans r0
    have s1 := (hb.cell (p := ⟨g, o + 1, none⟩) hgl).trans r1
    have s2 := (hb.cell (p := ⟨g, o + 2, none⟩) hgl).trans r2
    have s3 := (hb.cell (p := ⟨g, o + 2 + 1, none⟩) hgl).trans r3
    have y0 := blk_cell (i := 0) h6
    have y1 := blk_cell (i := 1) h6
    have y2 := blk_cell (i := 2) h6
    have y3 := blk_cell (i := 3) h6
    have y4 := blk_cell (i := 4) h6
    simp at y0 y1 y2 y3 y4
    have h6l := lt_of_block h6
    have HH6 := hide h6
    have HBB := hide hb
    have hnext : ∀ ob, (wr.alloc ob).heap[g6]? = some (.cells #[.int .i64 k, .int .i64 e, .int .i64 s, .int .i64 q, .string b] 41 (0, 0)) ∧ Below w.heap.size w (wr.alloc ob) := fun ob => ⟨(hao _ _ h6l).trans h6, hb.alloc hb.size _⟩
    have HNX := hide hnext
    clear h6 hb hnext r0 r1 r2 r3
    have hsf1 : ∀ (ad : Addr) (m : Mode) (z : World), (store ad (.func (.func 109) #[.pointer (some ⟨p, 0, none⟩)] #[]) m).run Tryz.prog z = stored Tryz.prog z ad (.func (.func 109) #[.pointer (some ⟨p, 0, none⟩)] #[]) m := fun ad m z => run_store _ _ _ _ _ rfl
    have hsf2 : ∀ (ad : Addr) (m : Mode) (z : World), (store ad (.func (.func 110) #[.pointer (some ⟨p, 0, none⟩)] #[]) m).run Tryz.prog z = stored Tryz.prog z ad (.func (.func 110) #[.pointer (some ⟨p, 0, none⟩)] #[]) m := fun ad m z => run_store _ _ _ _ _ rfl
    rcases (show j = 0 ∨ j = 1 ∨ j = 2 by omega) with rfl | rfl | rfl
    focus
      go_wp2
      exact ⟨⟨1, by omega, by go_num, (unhide HNX) _⟩, by simp [intOf]⟩
    focus
      go_wp2
      exact ⟨⟨2, by omega, by go_num, (unhide HNX) _⟩, by simp [intOf]⟩
    focus
      go_wp2
      go_ret2
      exact ⟨_, _, w, rfl, unhide HST, unhide HBB, framesOut_none _ _⟩
end Go.Proofs.YtamafdcnbcoegaaGreat
namespace Go.Proofs.YtamafdcnbcoegaaGreat
open Go.RowKit

/-- How many writes a frame asks for. -/
def skWr (a : Mod.Sk) (k e : Int) (s q : Nat) (b : ByteArray) : Nat :=
  if k = 1 then (if e < a.epoch then 0 else hiW a e.toNat) else if k = 3 then (if e = a.epoch then (a.commits 3 a.epoch s q b).length else 0) else 0
/-- How many writes bytes ask for. -/
def skW (a : Mod.Sk) (l : List UInt8) : Nat := if Wire.reads l = true then skWr a (Wire.kindOf l) (Wire.epochOf l) (Wire.streamOf l).toNat (Wire.seqOf l).toNat (Wire.bodyOf l) else 0
/-- The logs that are there where the disk failed at the n-th write of a frame. -/
def skBadR (a : Mod.Sk) (k : Int) (s q : Nat) (b : ByteArray) (n : Nat) : Nat → List ByteArray := if k = 3 then (grown a s ((a.commits 3 a.epoch s q b).take (n - 1))).logs else a.logs
def skBad (a : Mod.Sk) (l : List UInt8) (n : Nat) : Nat → List ByteArray := skBadR a (Wire.kindOf l) (Wire.streamOf l).toNat (Wire.seqOf l).toNat (Wire.bodyOf l) n
theorem skW_yes {a : Mod.Sk} {l : List UInt8} (hr : Wire.reads l = true) {k : Int} {e s q : Nat} {b : ByteArray} (h1 : Wire.kindOf l = k) (h2 : Wire.epochOf l = e) (h3 : Wire.streamOf l = s) (h4 : Wire.seqOf l = q) (h5 : Wire.bodyOf l = b) :
    skW a l = skWr a k e s q b ∧ ∀ n, skBad a l n = skBadR a k s q b n := by
  unfold skW skBad
  rw [hr, h1, h2, h3, h4, h5]
  exact ⟨rfl, fun _ => rfl⟩
theorem skW_no {a : Mod.Sk} {l : List UInt8} (hr : Wire.reads l = false) : skW a l = 0 := by
  unfold skW
  rw [hr]
  rfl
theorem skW_0 {a : Mod.Sk} {l : List UInt8} {n : Nat} (hr : Wire.reads l = false) (hn : 1 ≤ n ∧ n ≤ skW a l) : False := by
  rw [skW_no hr] at hn
  omega
theorem sinkDeliver_ok {op ct n : Nat} {w : World} {p : Nat} {a : Mod.Sk} {sh : Nat → List (Nat × Value)} {st : Mod.Stv} {c : Sv} (H : PkAt w p a.epoch a.logs sh st c) (hs : Alv op ct n st a.epoch a.logs) (hct : ct + 1000 < 18446744073709551616) (G : SkGood a) (M : SkMore a) (O : OnSh a.held sh) (bs : Value) (l : List UInt8) (hat : BytesAt w bs l) (hn : n = 0 ∨ skW a l < n) :
    Calls Tryz.prog 56 #[ptrTo p, bs] w fun r z => DlR (fun u x => SkIs2 op (ct + skW a l) (n - skW a l) u x p (skSays a l).2.1 c) w z (skSays a l).1 r (skSays a l).2.2 := by
  cases hr : Wire.reads l
  · rw [skSays_no hr, skW_no hr]
    refine (sinkDeliver_deaf H hs.dead bs l hat hr).mono ?_
    rintro r z ⟨rfl, hb⟩
    exact ⟨_, [], w, rfl, skIs2_refl H hs O, hb, framesOut_none _ _⟩
  · obtain ⟨k, e, s, q, b, h1, h2, h3, h4, h5, g1, g2, g3, g4⟩ := reads_parts hr
    rw [skSays_yes hr h1 h2 h3 h4 h5]
    rw [(skW_yes hr h1 h2 h3 h4 h5).1] at hn ⊢
    have hDec : ∀ y, Below w.heap.size w y → Calls Tryz.prog 54 #[bs] y fun r z => r = .returned (.tuple #[.agg #[.int .i64 k, .int .i64 e, .int .i64 s, .int .i64 q, .string b], .int .i64 0]) ∧ Below y.heap.size y z := fun y hy => by
      have := decode_any bs l y (hat.below hy)
      rw [hr] at this
      simp only [if_true, frVal, h1, h2, h3, h4, h5] at this
      exact this
    have HY := fun y (hy : Below w.heap.size w y) => H.far (far_below (E := fun _ => False) hy) (fun _ _ h => h)
    have n0 := H.ks.loglen (i := 0) (by omega)
    have n1 := H.ks.loglen (i := 1) (by omega)
    have n2 := H.ks.loglen (i := 2) (by omega)
    have hep := H.ks.ep
    have hbeh : ∀ {ct' n' : Nat} {a2 : Mod.Sk} {u v z : World}, SkIs2 op ct' n' v z p a2 c → Below u.heap.size u v → SkIs2 op ct' n' u z p a2 c := fun h hb => SkIs2.behind h hb
    unfold skReply
    unfold skWr at hn ⊢
    by_cases k1 : k = 1
    · simp only [if_pos k1] at hn ⊢
      by_cases hlt : (e : Int) < a.epoch
      · simp only [if_pos hlt] at hn ⊢
        refine sinkDeliverH_R (R := (fun u x => SkIs2 op (ct + 0) (n - 0) u x p a c)) H hs.dead bs (fun h hb => hbeh h hb) k e s q b k1 hDec (fun y hy => ?_)
        subst k1
        refine answerByH_okR (w := y) (R := (fun u x => SkIs2 op (ct + 0) (n - 0) u x p a c)) (fun h hb => hbeh h hb) 1 1 e s q b 5 a.epoch 0 0 ⟨#[]⟩ (fence_proper _ hep) (fun z hz => ?_)
        have hwz : Below w.heap.size w z := hy.trans (hz.mono hy.size)
        refine (answerHello_old (HY z hwz) e s q b (by omega)).mono ?_
        rintro r u ⟨rfl, hb⟩
        exact ⟨rfl, (skIs2_refl (HY z hwz) hs O).below hb⟩
      · simp only [if_neg hlt] at hn ⊢
        have hE : (e : Int).toNat = e := by omega
        rw [hE] at hn ⊢
        refine sinkDeliverH_R (R := (fun u x => SkIs2 op (ct + hiW a e) (n - hiW a e) u x p (helloIt a e) c)) H hs.dead bs (fun h hb => hbeh h hb) k e s q b k1 hDec (fun y hy => ?_)
        subst k1
        refine answerByH_okR (w := y) (R := (fun u x => SkIs2 op (ct + hiW a e) (n - hiW a e) u x p (helloIt a e) c)) (fun h hb => hbeh h hb) 1 1 e s q b 2 e 0 0 (welB a) (wel_proper g1 n0 n1 n2) (fun z hz => ?_)
        have hwz : Below w.heap.size w z := hy.trans (hz.mono hy.size)
        exact answerHello_ok (HY z hwz) hs hct O e s q b (by omega) g1 hn
    · simp only [if_neg k1] at hn ⊢
      by_cases k3 : k = 3
      · simp only [if_pos k3] at hn ⊢
        by_cases he : (e : Int) = a.epoch
        · simp only [if_pos he] at hn ⊢
          have he' : e = a.epoch := by omega
          subst k3
          rw [he] at hDec ⊢
          refine sinkDeliverD_R (R := (fun u x => SkIs2 op (ct + (a.commits 3 a.epoch s q b).length) (n - (a.commits 3 a.epoch s q b).length) u x p (skAfter a 3 a.epoch s q b) c)) H hs.dead bs (fun h hb => hbeh h hb) 3 a.epoch s q b rfl hDec (fun y hy => ?_)
          have hR := skGood_reply G 3 a.epoch s q b g2 (by omega)
          refine answerByD_okR (w := y) (R := (fun u x => SkIs2 op (ct + (a.commits 3 a.epoch s q b).length) (n - (a.commits 3 a.epoch s q b).length) u x p (skAfter a 3 a.epoch s q b) c)) (fun h hb => hbeh h hb) 3 3 a.epoch s q b 4 a.epoch s _ _ ?_ (fun z hz => ?_)
          · have hepE : (skAfter a 3 a.epoch s q b).epoch = a.epoch := by
              unfold skAfter
              split
              · exact holdIt_epoch _ _ _ _
              · rfl
            have hG : SkGood (skAfter a 3 a.epoch s q b) := by
              unfold skReply at hR
              rw [if_neg (by omega), if_pos rfl, if_pos rfl] at hR
              exact hR
            have hc := count_len (a := skAfter a 3 a.epoch s q b) g2
            have hrm := hG.room
            have := ack_proper (a := skAfter a 3 a.epoch s q b) (s := s) (up := ((skAfter a 3 a.epoch s q b).logs s).length) hG.ep g2 (by omega)
            rw [hepE] at this
            exact this
          · have hwz : Below w.heap.size w z := hy.trans (hz.mono hy.size)
            exact answerData_ok (HY z hwz) hs hct G M O s q g2 g3 b g4 hn
        · simp only [if_neg he] at hn ⊢
          have hE : max (e : Int).toNat a.epoch = max e a.epoch := rfl
          rw [hE]
          subst k3
          refine sinkDeliverD_R (R := (fun u x => SkIs2 op (ct + 0) (n - 0) u x p a c)) H hs.dead bs (fun h hb => hbeh h hb) 3 e s q b rfl hDec (fun y hy => ?_)
          refine answerByD_okR (w := y) (R := (fun u x => SkIs2 op (ct + 0) (n - 0) u x p a c)) (fun h hb => hbeh h hb) 3 3 e s q b 5 (max e a.epoch : Nat) 0 0 ⟨#[]⟩ (fence_proper _ (by omega)) (fun z hz => ?_)
          have hwz : Below w.heap.size w z := hy.trans (hz.mono hy.size)
          refine (answerData_other (HY z hwz) e s q b (by omega)).mono ?_
          rintro r u ⟨rfl, hb⟩
          exact ⟨rfl, (skIs2_refl (HY z hwz) hs O).below hb⟩
      · simp only [if_neg k3] at hn ⊢
        exact sinkDeliverN_R (R := fun u x => SkIs2 op (ct + 0) (n - 0) u x p a c) H hs.dead (skIs2_refl H hs O) bs k e s q b k1 k3 hDec
theorem sinkDeliver_bad {op ct n : Nat} {w : World} {p : Nat} {a : Mod.Sk} {sh : Nat → List (Nat × Value)} {st : Mod.Stv} {c : Sv} (H : PkAt w p a.epoch a.logs sh st c) (hs : Alv op ct n st a.epoch a.logs) (hct : ct + 1000 < 18446744073709551616) (G : SkGood a) (M : SkMore a) (O : OnSh a.held sh) (bs : Value) (l : List UInt8) (hat : BytesAt w bs l) (hn : 1 ≤ n ∧ n ≤ skW a l) :
    Calls Tryz.prog 56 #[ptrTo p, bs] w fun r z => DlR (fun u x => DeadAt op u x p a.epoch (skBad a l n) c) w z 4 r [] := by
  cases hr : Wire.reads l
  · exact (skW_0 hr hn).elim
  · obtain ⟨k, e, s, q, b, h1, h2, h3, h4, h5, g1, g2, g3, g4⟩ := reads_parts hr
    rw [(skW_yes hr h1 h2 h3 h4 h5).1] at hn
    rw [(skW_yes hr h1 h2 h3 h4 h5).2]
    have hDec : ∀ y, Below w.heap.size w y → Calls Tryz.prog 54 #[bs] y fun r z => r = .returned (.tuple #[.agg #[.int .i64 k, .int .i64 e, .int .i64 s, .int .i64 q, .string b], .int .i64 0]) ∧ Below y.heap.size y z := fun y hy => by
      have := decode_any bs l y (hat.below hy)
      rw [hr] at this
      simp only [if_true, frVal, h1, h2, h3, h4, h5] at this
      exact this
    have HY := fun y (hy : Below w.heap.size w y) => H.far (far_below (E := fun _ => False) hy) (fun _ _ h => h)
    have hbeh : ∀ {e2 : Nat} {lg : Nat → List ByteArray} {u v z : World}, DeadAt op v z p e2 lg c → Below u.heap.size u v → DeadAt op u z p e2 lg c := fun h hb => DeadAt.behind h hb
    unfold skBadR
    unfold skWr at hn
    by_cases k1 : k = 1
    · rw [if_neg (by omega)]
      rw [if_pos k1] at hn
      by_cases hlt : (e : Int) < a.epoch
      · rw [if_pos hlt] at hn
        omega
      · rw [if_neg hlt] at hn
        have hE : (e : Int).toNat = e := by omega
        rw [hE] at hn
        refine sinkDeliverH_R (R := (fun u x => DeadAt op u x p a.epoch a.logs c)) H hs.dead bs (fun h hb => hbeh h hb) k e s q b k1 hDec (fun y hy => ?_)
        subst k1
        refine answerByH_badR (w := y) (R := (fun u x => DeadAt op u x p a.epoch a.logs c)) (fun h hb => hbeh h hb) 1 1 e s q b (fun z hz => ?_)
        have hwz : Below w.heap.size w z := hy.trans (hz.mono hy.size)
        exact answerHello_bad (HY z hwz) hs hct O e s q b (by omega) g1 hn
    · rw [if_neg k1] at hn
      by_cases k3 : k = 3
      · rw [if_pos k3] at hn ⊢
        by_cases he : (e : Int) = a.epoch
        · rw [if_pos he] at hn
          subst k3
          rw [he] at hDec
          refine sinkDeliverD_R (R := (fun u x => DeadAt op u x p a.epoch (grown a s ((a.commits 3 a.epoch s q b).take (n - 1))).logs c)) H hs.dead bs (fun h hb => hbeh h hb) 3 a.epoch s q b rfl hDec (fun y hy => ?_)
          refine answerByD_badR (w := y) (R := (fun u x => DeadAt op u x p a.epoch (grown a s ((a.commits 3 a.epoch s q b).take (n - 1))).logs c)) (fun h hb => hbeh h hb) 3 3 a.epoch s q b (fun z hz => ?_)
          have hwz : Below w.heap.size w z := hy.trans (hz.mono hy.size)
          exact answerData_bad (HY z hwz) hs hct G M O s q g2 g3 b g4 hn
        · rw [if_neg he] at hn
          omega
      · rw [if_neg k3] at hn
        omega
end Go.Proofs.YtamafdcnbcoegaaGreat
namespace Go.Proofs.YtamafdcnbcoegaaGreat
open Go.RowKit

set_option maxHeartbeats 1000000 in
theorem sinkLog_live {w : World} {p e : Nat} {logs : Nat → List ByteArray} {sh : Nat → List (Nat × Value)} {st : Mod.Stv} {c : Sv} (H : PkAt w p e logs sh st c) (hs : st.dk.dead = false) (i : Int) :
    Calls Tryz.prog 60 #[ptrTo p, .int .i64 i] w fun r w' =>
      ∃ lv, r = .returned lv ∧ w'.ownsRow w.heap.size 9 1 lv (if 0 ≤ i ∧ i < 3 then logs i.toNat else []).length (strs (if 0 ≤ i ∧ i < 3 then logs i.toNat else [])) ∧ Below w.heap.size w w' := by
  have c0 : w.cell? ⟨p, 0, none⟩ = some (ptrTo c.s) := by rw [blk_cell H.ks.blk, H.ks.a0]
  have hID := storeIsDead_any H.stt
  rw [hs] at hID
  have HID := hide hID
  by_cases h : 0 ≤ i ∧ i < 3
  · rw [if_pos h]
    obtain ⟨n, rfl⟩ := Int.eq_ofNat_of_zero_le h.1
    obtain ⟨h0, h3⟩ := h
    have hn3 : n < 3 := by omega
    obtain ⟨ad, cap, hlv, clog⟩ := H.ks.logc hn3
    have hrow := H.ks.lgs n hn3
    rw [hlv] at hrow
    have HCL := hide (cloneStrs_any hrow (by have := H.ks.loglen hn3; omega))
    have hst : Wire.isStr (n : Int) = true := by simp [Wire.isStr]; omega
    have hIS := isStream_any (n : Int) w
    rw [hst] at hIS
    have HIS := hide hIS
    have hnn : ((n : Int)).toNat = n := by omega
    rw [hnn]
    obtain ⟨m, hm⟩ : ∃ m, m = (logs n).length := ⟨_, rfl⟩
    obtain ⟨xs, hxs⟩ : ∃ xs, xs = strs (logs n) := ⟨_, rfl⟩
    rw [← hm, ← hxs] at HCL ⊢
    rw [← hm] at clog
    clear H hID hrow hlv hIS hst hnn hm hxs
    unfold ptrTo at *
    go_enter Tryz.func60, Tryz.ntmps60
    go_wp2_with (first | (go_at_call 87; refine (unhide HIS).mono ?_; rintro r y ⟨rfl, hyw⟩; obtain rfl : w = y := hyw.symm) | (go_at_call 86; refine (unhide HID).mono ?_; rintro r y ⟨rfl, hyw⟩; obtain rfl : w = y := hyw.symm) | (go_at_call 100; refine (unhide HCL).mono ?_; rintro r y ⟨v', rfl, ho, hb⟩; replace ho := hide ho; replace hb := hide hb))
    go_ret
    exact ⟨v', rfl, unhide ho, unhide hb⟩
  · rw [if_neg h]
    have hst : Wire.isStr i = false := by
      cases hc : Wire.isStr i
      · rfl
      · simp [Wire.isStr] at hc; omega
    have hIS := isStream_any i w
    rw [hst] at hIS
    have HIS := hide hIS
    clear H hID hIS hst h
    unfold ptrTo at *
    go_enter Tryz.func60, Tryz.ntmps60
    go_wp2_with (go_at_call 87; refine (unhide HIS).mono ?_; rintro r y ⟨rfl, hyw⟩; obtain rfl : w = y := hyw.symm)
    go_ret
    exact ⟨_, rfl, World.ownsRow_nil _ _ _ _, Below.refl _ _⟩

set_option maxHeartbeats 1000000 in
theorem sinkLog_dead {w : World} {p e : Nat} {logs : Nat → List ByteArray} {sh : Nat → List (Nat × Value)} {st : Mod.Stv} {c : Sv} (H : PkAt w p e logs sh st c) (hs : st.dk.dead = true) (i : Int) :
    Calls Tryz.prog 60 #[ptrTo p, .int .i64 i] w fun r w' => r = .returned (.slice none 0 0) ∧ w' = w := by
  have c0 : w.cell? ⟨p, 0, none⟩ = some (ptrTo c.s) := by rw [blk_cell H.ks.blk, H.ks.a0]
  have hID := storeIsDead_any H.stt
  rw [hs] at hID
  have HID := hide hID
  have hIS := isStream_any i w
  cases hst : Wire.isStr i with
  | true =>
    rw [hst] at hIS
    have HIS := hide hIS
    clear H hID hIS hst
    unfold ptrTo at *
    go_enter Tryz.func60, Tryz.ntmps60
    go_wp2_with (first | (go_at_call 87; refine (unhide HIS).mono ?_; rintro r y ⟨rfl, hyw⟩; obtain rfl : w = y := hyw.symm) | (go_at_call 86; refine (unhide HID).mono ?_; rintro r y ⟨rfl, hyw⟩; obtain rfl : w = y := hyw.symm))
    go_ret
    exact ⟨rfl, rfl⟩
  | false =>
    rw [hst] at hIS
    have HIS := hide hIS
    clear H hID hIS hst
    unfold ptrTo at *
    go_enter Tryz.func60, Tryz.ntmps60
    go_wp2_with (go_at_call 87; refine (unhide HIS).mono ?_; rintro r y ⟨rfl, hyw⟩; obtain rfl : w = y := hyw.symm)
    go_ret
    exact ⟨rfl, rfl⟩
set_option maxHeartbeats 1000000 in
theorem sinkDeliver_dead {w : World} {p e : Nat} {logs : Nat → List ByteArray} {sh : Nat → List (Nat × Value)} {st : Mod.Stv} {c : Sv} (H : PkAt w p e logs sh st c) (hs : st.dk.dead = true) (bs : Value) :
    Calls Tryz.prog 56 #[ptrTo p, bs] w fun r w' => r = .returned (.tuple #[.slice none 0 0, .int .i64 3]) ∧ w' = w := by
  have c0 : w.cell? ⟨p, 0, none⟩ = some (ptrTo c.s) := by rw [blk_cell H.ks.blk, H.ks.a0]
  have hID := storeIsDead_any H.stt
  rw [hs] at hID
  have HID := hide hID
  clear H hID
  unfold ptrTo at *
  go_enter Tryz.func56, Tryz.ntmps56
  go_wp2_with (go_at_call 86; refine (unhide HID).mono ?_; rintro r y ⟨rfl, hyw⟩; obtain rfl : w = y := hyw.symm)
  go_ret2
  exact ⟨rfl, rfl⟩
set_option maxHeartbeats 1000000 in
theorem sinkArm_any {w : World} {p e : Nat} {logs : Nat → List ByteArray} {sh : Nat → List (Nat × Value)} {st : Mod.Stv} {c : Sv} (H : PkAt w p e logs sh st c) (n : Int) (hn : n ≤ 9223372036854775807) :
    Calls Tryz.prog 62 #[ptrTo p, .int .i64 n] w fun r w' => r = .returned (.tuple #[]) ∧ PkAt w' p e logs sh { st with dk := { st.dk with armed := n.toNat } } c ∧ Far (fun k => k = c.dp) w w' := by
  have c0 : w.cell? ⟨p, 0, none⟩ = some (ptrTo c.s) := by rw [blk_cell H.ks.blk, H.ks.a0]
  have HA := hide (storeArm_any H.stt n hn)
  have HH := hide H
  clear H
  unfold ptrTo at *
  go_enter Tryz.func62, Tryz.ntmps62
  go_wp2_with (go_at_call 101; refine (unhide HA).mono ?_; rintro r y ⟨rfl, k1, k2⟩; replace k1 := hide k1; replace k2 := hide k2)
  have H := unhide HH
  exact bodyPost_end (results_none rfl _ _ _) rfl ⟨rfl, ⟨H.ks.far (unhide k2) (fun k hk e => H.sep k hk (by rw [e]; exact .inr (.inl rfl))), unhide k1, H.rl.far (unhide k2) (fun g hg e => (H.sepr g hg).2 (by rw [e]; exact .inr (.inl rfl))), H.len⟩, unhide k2⟩
end Go.Proofs.YtamafdcnbcoegaaGreat
namespace Go.Proofs.YtamafdcnbcoegaaGreat
open Go.RowKit

def skLogs (a : Mod.Sk) (i : Int) : List ByteArray := if 0 ≤ i ∧ i < 3 then a.logs i.toNat else []
end Go.Proofs.YtamafdcnbcoegaaGreat
namespace Go.Proofs.YtamafdcnbcoegaaGreat
open Go.RowKit

/-- The program's sink in memory: its opening, at most so many writes, at which write its disk fails. -/
def CxAt (op ct n : Nat) (w : World) (v : Nat) (a : Mod.Sk) (U : Nat → Prop) : Prop :=
  ∃ p sh st c, w.heap[v]? = some (.cells #[ptrTo p] 93 (0, 0)) ∧ PkAt w p a.epoch a.logs sh st c ∧ Alv op ct n st a.epoch a.logs ∧ OnSh a.held sh ∧ SkMore a ∧ U = fun k => k = v ∨ PkU p c k
/-- The program's sink in memory, dead. -/
def CdAt (op : Nat) (w : World) (v : Nat) (e : Nat) (logs : Nat → List ByteArray) (U : Nat → Prop) : Prop :=
  ∃ p sh st c, w.heap[v]? = some (.cells #[ptrTo p] 93 (0, 0)) ∧ PkAt w p e logs sh st c ∧ Ded op st e logs ∧ U = fun k => k = v ∨ PkU p c k
/-- A program's sink, as its callers see it, on a disk that may fail. -/
structure SinkX where
  At : (op ct n : Nat) → World → Nat → Mod.Sk → (Nat → Prop) → Prop
  Dd : Nat → World → Nat → Nat → (Nat → List ByteArray) → (Nat → Prop) → Prop
  lt : ∀ {op ct n w v a U}, At op ct n w v a U → ∀ k, U k → k < w.heap.size
  far : ∀ {op ct n w w' v a U E}, At op ct n w v a U → Far E w w' → (∀ k, U k → ¬ E k) → At op ct n w' v a U
  ltD : ∀ {op w v e lg U}, Dd op w v e lg U → ∀ k, U k → k < w.heap.size
  farD : ∀ {op w w' v e lg U E}, Dd op w v e lg U → Far E w w' → (∀ k, U k → ¬ E k) → Dd op w' v e lg U
  ok : ∀ {op ct n w v a U} (bs : Value) (l : List UInt8), At op ct n w v a U → ct + 1000 < 18446744073709551616 → SkGood a → BytesAt w bs l → (n = 0 ∨ skW a l < n) → Calls Tryz.prog 27 #[ptrTo v, bs] w fun r w' =>
    ∃ lv fs U', r = .returned (.tuple #[lv, .int .i64 (skSays a l).1]) ∧ FramesOut w.heap.size w' lv fs (skSays a l).2.2 U' ∧ At op (ct + skW a l) (n - skW a l) w' v (skSays a l).2.1 U' ∧ Far U w w' ∧ ∀ k, U' k → U k ∨ w.heap.size ≤ k
  bad : ∀ {op ct n w v a U} (bs : Value) (l : List UInt8), At op ct n w v a U → ct + 1000 < 18446744073709551616 → SkGood a → BytesAt w bs l → 1 ≤ n ∧ n ≤ skW a l → Calls Tryz.prog 27 #[ptrTo v, bs] w fun r w' =>
    ∃ lv fs U', r = .returned (.tuple #[lv, .int .i64 4]) ∧ FramesOut w.heap.size w' lv fs [] U' ∧ Dd op w' v a.epoch (skBad a l n) U' ∧ Far U w w' ∧ ∀ k, U' k → U k ∨ w.heap.size ≤ k
  dead : ∀ {op w v e lg U} (bs : Value), Dd op w v e lg U → Calls Tryz.prog 27 #[ptrTo v, bs] w fun r w' => r = .returned (.tuple #[.slice none 0 0, .int .i64 3]) ∧ w' = w
  epoch : ∀ {op ct n w v a U}, At op ct n w v a U → Calls Tryz.prog 42 #[ptrTo v] w fun r w' => r = .returned (.int .i64 a.epoch) ∧ w' = w
  log : ∀ {op ct n w v a U} (i : Int), At op ct n w v a U → Calls Tryz.prog 32 #[ptrTo v, .int .i64 i] w fun r w' =>
    ∃ lv, r = .returned lv ∧ w'.ownsRow w.heap.size 9 1 lv (skLogs a i).length (strs (skLogs a i)) ∧ Below w.heap.size w w'
  logD : ∀ {op w v e lg U} (i : Int), Dd op w v e lg U → Calls Tryz.prog 32 #[ptrTo v, .int .i64 i] w fun r w' => r = .returned (.slice none 0 0) ∧ w' = w
  arm : ∀ {op ct n w v a U} (m : Int), At op ct n w v a U → m ≤ 9223372036854775807 → Calls Tryz.prog 35 #[ptrTo v, .int .i64 m] w fun r w' => r = .returned (.tuple #[]) ∧ At op ct m.toNat w' v a U ∧ Far U w w'
  armD : ∀ {op w v e lg U} (m : Int), Dd op w v e lg U → m ≤ 9223372036854775807 → Calls Tryz.prog 35 #[ptrTo v, .int .i64 m] w fun r w' => r = .returned (.tuple #[]) ∧ Dd op w' v e lg U ∧ Far U w w'
  img : ∀ {op ct n w v a U}, At op ct n w v a U → ∃ (L : List UInt8) (c2 hd : Nat), Mod.SkDisk L op c2 hd a.epoch a.logs ∧ ∀ x, Below w.heap.size w x → ∀ keep : Int,
    Calls Tryz.prog 30 #[ptrTo v, .int .u64 keep] x fun r y => ∃ v', r = .returned v' ∧ Owns x.heap.size y v' L ∧ Below x.heap.size x y
  imgD : ∀ {op w v e lg U}, Dd op w v e lg U → ∃ (L : List UInt8) (c2 hd : Nat), Mod.SkDisk L op c2 hd e lg ∧ ∀ x, Below w.heap.size w x → ∀ keep : Int,
    Calls Tryz.prog 30 #[ptrTo v, .int .u64 keep] x fun r y => ∃ v', r = .returned v' ∧ Owns x.heap.size y v' L ∧ Below x.heap.size x y
  opened : ∀ {w} (bs : Value) (L : List UInt8) {op c2 hd e : Nat} {lg : Nat → List ByteArray}, BytesAt w bs L → Mod.SkDisk L op c2 hd e lg → op ≤ 1073741824 → Calls Tryz.prog 38 #[bs] w fun r w' =>
    ∃ v U, r = .returned (.tuple #[ptrTo v, .int .i64 0]) ∧ At (op + 1) 1 0 w' v { epoch := e, logs := lg, held := [] } U ∧ Below w.heap.size w w' ∧ ∀ k, U k → w.heap.size ≤ k
  zero : ∀ {w} (bs : Value), BytesAt w bs (List.replicate 7808 0) → Calls Tryz.prog 38 #[bs] w fun r w' =>
    ∃ v U, r = .returned (.tuple #[ptrTo v, .int .i64 0]) ∧ At 1 1 0 w' v { epoch := 0, logs := fun _ => [], held := [] } U ∧ Below w.heap.size w w' ∧ ∀ k, U k → w.heap.size ≤ k

section
variable {op ct n : Nat} {w w' : World} {v : Nat} {a : Mod.Sk} {U : Nat → Prop} {e : Nat} {lg : Nat → List ByteArray}
theorem cxAt_lt (h : CxAt op ct n w v a U) : ∀ k, U k → k < w.heap.size := by
  obtain ⟨p, sh, st, c, hb, H, _, _, _, rfl⟩ := h
  rintro k (rfl | hk)
  · exact lt_of_block hb
  · exact H.lt k hk
theorem cxAt_far {E : Nat → Prop} (h : CxAt op ct n w v a U) (hf : Far E w w') (hE : ∀ k, U k → ¬ E k) : CxAt op ct n w' v a U := by
  obtain ⟨p, sh, st, c, hb, H, h1, h2, h3, rfl⟩ := h
  exact ⟨p, sh, st, c, hf.blk hb (hE v (.inl rfl)), H.far hf (fun k hk => hE k (.inr hk)), h1, h2, h3, rfl⟩
theorem cdAt_lt (h : CdAt op w v e lg U) : ∀ k, U k → k < w.heap.size := by
  obtain ⟨p, sh, st, c, hb, H, _, rfl⟩ := h
  rintro k (rfl | hk)
  · exact lt_of_block hb
  · exact H.lt k hk
theorem cdAt_far {E : Nat → Prop} (h : CdAt op w v e lg U) (hf : Far E w w') (hE : ∀ k, U k → ¬ E k) : CdAt op w' v e lg U := by
  obtain ⟨p, sh, st, c, hb, H, h1, rfl⟩ := h
  exact ⟨p, sh, st, c, hf.blk hb (hE v (.inl rfl)), H.far hf (fun k hk => hE k (.inr hk)), h1, rfl⟩
set_option maxHeartbeats 1000000 in
theorem cxDeliver_ok (bs : Value) (l : List UInt8) (h : CxAt op ct n w v a U) (hct : ct + 1000 < 18446744073709551616) (G : SkGood a) (hat : BytesAt w bs l) (hn : n = 0 ∨ skW a l < n) :
    Calls Tryz.prog 27 #[ptrTo v, bs] w fun r w' =>
      ∃ lv fs U', r = .returned (.tuple #[lv, .int .i64 (skSays a l).1]) ∧ FramesOut w.heap.size w' lv fs (skSays a l).2.2 U' ∧ CxAt op (ct + skW a l) (n - skW a l) w' v (skSays a l).2.1 U' ∧ Far U w w' ∧ ∀ k, U' k → U k ∨ w.heap.size ≤ k := by
  obtain ⟨p, sh, st, c, hb, H, hs, O, M, rfl⟩ := h
  have c0 : w.cell? ⟨v, 0, none⟩ = some (ptrTo p) := blk_cell (i := 0) hb
  have HD := hide (sinkDeliver_ok H hs hct G M O bs l hat hn)
  have hM := skMore_says M l
  obtain ⟨a2, ha2⟩ : ∃ a2, a2 = (skSays a l).2.1 := ⟨_, rfl⟩
  obtain ⟨er, her⟩ : ∃ er, er = (skSays a l).1 := ⟨_, rfl⟩
  obtain ⟨Fl, hFl⟩ : ∃ Fl, Fl = (skSays a l).2.2 := ⟨_, rfl⟩
  rw [← ha2, ← her, ← hFl] at HD ⊢
  rw [← ha2] at hM
  generalize ct + skW a l = ct' at HD ⊢
  generalize n - skW a l = n' at HD ⊢
  have hnv := cs_not H hb
  have HH := hide (And.intro hb hM)
  clear H hb hM ha2 her hFl hat hn hs hct
  unfold ptrTo at c0 HD
  show Calls Tryz.prog _ #[.pointer (some ⟨v, 0, none⟩), bs] w _
  go_enter Tryz.func27, Tryz.ntmps27
  go_wp2_with (go_at_call 56; refine (unhide HD).mono ?_; rintro r y ⟨lv, fs, x, rfl, k1, k2, k3⟩; replace k1 := hide k1; replace k2 := hide k2; replace k3 := hide k3)
  go_ret2
  obtain ⟨sh2, st2, ⟨c2, K, F, N, t1, t2⟩, hs2, O2⟩ := unhide k1
  obtain ⟨hb, hM⟩ := unhide HH
  have hbx := F.blk hb hnv
  have hB := unhide k2
  refine ⟨lv, fs, fun k => k = v ∨ PkU p c2 k, rfl, (unhide k3).up F.size ?_, ⟨p, sh2, st2, c2, (hB.block _ (lt_of_block hbx)).trans hbx, K.far (far_below (E := fun _ => False) hB) (fun _ _ h => h), hs2, O2, hM, rfl⟩, ?_, ?_⟩
  · rintro k (rfl | hk)
    · exact lt_of_block hbx
    · exact K.lt k hk
  · exact (F.mono (fun k _ h => .inr h)).trans (far_below (E := fun _ => False) hB) (fun _ _ h => h.elim)
  · rintro k (rfl | hk)
    · exact .inl (.inl rfl)
    · exact (N k hk).imp .inr id
set_option maxHeartbeats 1000000 in
theorem cxDeliver_bad (bs : Value) (l : List UInt8) (h : CxAt op ct n w v a U) (hct : ct + 1000 < 18446744073709551616) (G : SkGood a) (hat : BytesAt w bs l) (hn : 1 ≤ n ∧ n ≤ skW a l) :
    Calls Tryz.prog 27 #[ptrTo v, bs] w fun r w' =>
      ∃ lv fs U', r = .returned (.tuple #[lv, .int .i64 4]) ∧ FramesOut w.heap.size w' lv fs [] U' ∧ CdAt op w' v a.epoch (skBad a l n) U' ∧ Far U w w' ∧ ∀ k, U' k → U k ∨ w.heap.size ≤ k := by
  obtain ⟨p, sh, st, c, hb, H, hs, O, M, rfl⟩ := h
  have c0 : w.cell? ⟨v, 0, none⟩ = some (ptrTo p) := blk_cell (i := 0) hb
  have HD := hide (sinkDeliver_bad H hs hct G M O bs l hat hn)
  generalize skBad a l n = lg at HD ⊢
  generalize hep : a.epoch = ep at HD ⊢
  have hnv := cs_not H hb
  have HH := hide hb
  clear H hb hat hn hs hct hep
  unfold ptrTo at c0 HD
  show Calls Tryz.prog _ #[.pointer (some ⟨v, 0, none⟩), bs] w _
  go_enter Tryz.func27, Tryz.ntmps27
  go_wp2_with (go_at_call 56; refine (unhide HD).mono ?_; rintro r y ⟨lv, fs, x, rfl, k1, k2, k3⟩; replace k1 := hide k1; replace k2 := hide k2; replace k3 := hide k3)
  go_ret2
  obtain ⟨sh2, st2, ⟨c2, K, F, N, t1, t2⟩, hs2⟩ := unhide k1
  have hb := unhide HH
  have hbx := F.blk hb hnv
  have hB := unhide k2
  refine ⟨lv, fs, fun k => k = v ∨ PkU p c2 k, rfl, (unhide k3).up F.size ?_, ⟨p, sh2, st2, c2, (hB.block _ (lt_of_block hbx)).trans hbx, K.far (far_below (E := fun _ => False) hB) (fun _ _ h => h), hs2, rfl⟩, ?_, ?_⟩
  · rintro k (rfl | hk)
    · exact lt_of_block hbx
    · exact K.lt k hk
  · exact (F.mono (fun k _ h => .inr h)).trans (far_below (E := fun _ => False) hB) (fun _ _ h => h.elim)
  · rintro k (rfl | hk)
    · exact .inl (.inl rfl)
    · exact (N k hk).imp .inr id
set_option maxHeartbeats 1000000 in
theorem cdDeliver (bs : Value) (h : CdAt op w v e lg U) : Calls Tryz.prog 27 #[ptrTo v, bs] w fun r w' => r = .returned (.tuple #[.slice none 0 0, .int .i64 3]) ∧ w' = w := by
  obtain ⟨p, sh, st, c, hb, H, hs, rfl⟩ := h
  have c0 : w.cell? ⟨v, 0, none⟩ = some (ptrTo p) := blk_cell (i := 0) hb
  have HD := hide (sinkDeliver_dead H hs.dead bs)
  clear H hb
  unfold ptrTo at c0 HD
  show Calls Tryz.prog _ #[.pointer (some ⟨v, 0, none⟩), bs] w _
  go_enter Tryz.func27, Tryz.ntmps27
  go_wp2_with (go_at_call 56; refine (unhide HD).mono ?_; rintro r y ⟨rfl, rfl⟩)
  go_ret2
  exact ⟨rfl, rfl⟩
theorem cxEpoch (h : CxAt op ct n w v a U) : Calls Tryz.prog 42 #[ptrTo v] w fun r w' => r = .returned (.int .i64 a.epoch) ∧ w' = w := by
  obtain ⟨p, sh, st, c, hb, H, hs, O, M, rfl⟩ := h
  have c0 : w.cell? ⟨v, 0, none⟩ = some (ptrTo p) := blk_cell (i := 0) hb
  have HD := hide (sinkEpoch_any H)
  clear H hb
  unfold ptrTo at *
  go_enter Tryz.func42, Tryz.ntmps42
  go_wp2_with (go_at_call 67; refine (unhide HD).mono ?_; rintro r y ⟨rfl, rfl⟩)
  go_ret
  exact ⟨rfl, rfl⟩
theorem cxLog (i : Int) (h : CxAt op ct n w v a U) : Calls Tryz.prog 32 #[ptrTo v, .int .i64 i] w fun r w' =>
      ∃ lv, r = .returned lv ∧ w'.ownsRow w.heap.size 9 1 lv (skLogs a i).length (strs (skLogs a i)) ∧ Below w.heap.size w w' := by
  obtain ⟨p, sh, st, c, hb, H, hs, O, M, rfl⟩ := h
  have c0 : w.cell? ⟨v, 0, none⟩ = some (ptrTo p) := blk_cell (i := 0) hb
  have HD := hide (sinkLog_live H hs.dead i)
  unfold skLogs
  obtain ⟨xs, hxs⟩ : ∃ xs, xs = if 0 ≤ i ∧ i < 3 then a.logs i.toNat else [] := ⟨_, rfl⟩
  rw [← hxs] at HD ⊢
  clear H hb hxs
  unfold ptrTo at *
  go_enter Tryz.func32, Tryz.ntmps32
  go_wp2_with (go_at_call 60; refine (unhide HD).mono ?_; rintro r y ⟨lv, rfl, k1, k2⟩; replace k1 := hide k1; replace k2 := hide k2)
  go_ret
  exact ⟨lv, rfl, unhide k1, unhide k2⟩
theorem cdLog (i : Int) (h : CdAt op w v e lg U) : Calls Tryz.prog 32 #[ptrTo v, .int .i64 i] w fun r w' => r = .returned (.slice none 0 0) ∧ w' = w := by
  obtain ⟨p, sh, st, c, hb, H, hs, rfl⟩ := h
  have c0 : w.cell? ⟨v, 0, none⟩ = some (ptrTo p) := blk_cell (i := 0) hb
  have HD := hide (sinkLog_dead H hs.dead i)
  clear H hb
  unfold ptrTo at *
  go_enter Tryz.func32, Tryz.ntmps32
  go_wp2_with (go_at_call 60; refine (unhide HD).mono ?_; rintro r y ⟨rfl, rfl⟩)
  go_ret
  exact ⟨rfl, rfl⟩
theorem csArmOf {p : Nat} {sh : Nat → List (Nat × Value)} {st : Mod.Stv} {c : Sv} (hb : w.heap[v]? = some (.cells #[ptrTo p] 93 (0, 0))) (H : PkAt w p e lg sh st c) (m : Int) (hm : m ≤ 9223372036854775807) :
    Calls Tryz.prog 35 #[ptrTo v, .int .i64 m] w fun r w' => r = .returned (.tuple #[]) ∧ w'.heap[v]? = some (.cells #[ptrTo p] 93 (0, 0)) ∧ PkAt w' p e lg sh { st with dk := { st.dk with armed := m.toNat } } c ∧ Far (fun k => k = v ∨ PkU p c k) w w' := by
  have c0 : w.cell? ⟨v, 0, none⟩ = some (ptrTo p) := blk_cell (i := 0) hb
  have HD := hide (sinkArm_any H m hm)
  have hnv := cs_not H hb
  have HB := hide hb
  clear H hb hm
  unfold ptrTo at *
  go_enter Tryz.func35, Tryz.ntmps35
  go_wp2_with (go_at_call 62; refine (unhide HD).mono ?_; rintro r y ⟨rfl, k1, k2⟩; replace k1 := hide k1; replace k2 := hide k2)
  have F := unhide k2
  exact bodyPost_end (results_none rfl _ _ _) rfl ⟨rfl, F.blk (unhide HB) (fun e => hnv (by rw [e]; exact .inr (.inl (.inr (.inl rfl))))), unhide k1, F.mono (fun k _ e => .inr (by rw [e]; exact .inr (.inl (.inr (.inl rfl)))))⟩
theorem cxArm (m : Int) (h : CxAt op ct n w v a U) (hm : m ≤ 9223372036854775807) : Calls Tryz.prog 35 #[ptrTo v, .int .i64 m] w fun r w' => r = .returned (.tuple #[]) ∧ CxAt op ct m.toNat w' v a U ∧ Far U w w' := by
  obtain ⟨p, sh, st, c, hb, H, hs, O, M, rfl⟩ := h
  refine (csArmOf hb H m hm).mono ?_
  rintro r y ⟨rfl, k1, k2, k3⟩
  exact ⟨rfl, ⟨p, sh, _, c, k1, k2, ⟨hs.dead, rfl, hs.op, hs.ct, hs.dk⟩, O, M, rfl⟩, k3⟩
theorem cdArm (m : Int) (h : CdAt op w v e lg U) (hm : m ≤ 9223372036854775807) : Calls Tryz.prog 35 #[ptrTo v, .int .i64 m] w fun r w' => r = .returned (.tuple #[]) ∧ CdAt op w' v e lg U ∧ Far U w w' := by
  obtain ⟨p, sh, st, c, hb, H, hs, rfl⟩ := h
  refine (csArmOf hb H m hm).mono ?_
  rintro r y ⟨rfl, k1, k2, k3⟩
  exact ⟨rfl, ⟨p, sh, _, c, k1, k2, ⟨hs.dead, hs.op, hs.dk⟩, rfl⟩, k3⟩
theorem cxImg (h : CxAt op ct n w v a U) : ∃ (L : List UInt8) (c2 hd : Nat), Mod.SkDisk L op c2 hd a.epoch a.logs ∧ ∀ x, Below w.heap.size w x → ∀ keep : Int,
    Calls Tryz.prog 30 #[ptrTo v, .int .u64 keep] x fun r y => ∃ v', r = .returned v' ∧ Owns x.heap.size y v' L ∧ Below x.heap.size x y := by
  obtain ⟨p, sh, st, c, hb, H, hs, O, M, rfl⟩ := h
  refine ⟨st.dk.bytes, st.count, st.head, by rw [← hs.op]; exact hs.dk, fun x hx keep => ?_⟩
  exact csImageOf ((hx.block _ (lt_of_block hb)).trans hb) (H.far (E := fun _ => False) (far_below hx) (fun _ _ e => e)) keep
theorem cdImg (h : CdAt op w v e lg U) : ∃ (L : List UInt8) (c2 hd : Nat), Mod.SkDisk L op c2 hd e lg ∧ ∀ x, Below w.heap.size w x → ∀ keep : Int,
    Calls Tryz.prog 30 #[ptrTo v, .int .u64 keep] x fun r y => ∃ v', r = .returned v' ∧ Owns x.heap.size y v' L ∧ Below x.heap.size x y := by
  obtain ⟨p, sh, st, c, hb, H, hs, rfl⟩ := h
  obtain ⟨c2, hd, hk⟩ := hs.dk
  refine ⟨st.dk.bytes, c2, hd, by rw [← hs.op]; exact hk, fun x hx keep => ?_⟩
  exact csImageOf ((hx.block _ (lt_of_block hb)).trans hb) (H.far (E := fun _ => False) (far_below hx) (fun _ _ e => e)) keep
end
end Go.Proofs.YtamafdcnbcoegaaGreat
