/-
  Part 7 of a proof: D17, T1, X7, X8, X9, X10, X11, X12.
-/
import Derived.Test.YtamafdcnbcoegaaGreatSd6
namespace Go.Proofs.YtamafdcnbcoegaaGreat
open Go.RowKit

/-- A new disk. -/
def NewDk (B : Nat) (L : List UInt8) (p : Nat) (w : World) : Prop := ∃ lv, DkAt w p ⟨L, 0, false⟩ lv (.slice none 0 0) ∧ ∀ k, DkU p lv (.slice none 0 0) k → B ≤ k
theorem newDk_below {B : Nat} {L : List UInt8} {p : Nat} {w x : World} (h : NewDk B L p w) (hb : Below w.heap.size w x) : NewDk B L p x := h.imp fun _ h => ⟨h.1.far (far_below (E := fun _ => False) hb) (fun _ _ h => h), h.2⟩
/-- A store before its first write. -/
def NewSt (B : Nat) (L : List UInt8) (s : Nat) (w : World) : Prop := ∃ p, NewDk B L p w ∧ B ≤ s ∧ w.heap[s]? = some (.cells #[ptrTo p, .int .u32 1, .int .u64 0, .int .i64 0] 203 (0, 0))
theorem newSt_below {B : Nat} {L : List UInt8} {s : Nat} {w x : World} (h : NewSt B L s w) (hb : Below w.heap.size w x) : NewSt B L s x := h.imp fun _ h => ⟨newDk_below h.1 hb, h.2.1, (hb.block _ (lt_of_block h.2.2)).trans h.2.2⟩

theorem ownsRow_monoB {w : World} {B B' size : Nat} {e : TypeId} {v : Value} {n : Nat} {xs : List Value} (h : w.ownsRow B e size v n xs) (hB : B' ≤ B) : w.ownsRow B' e size v n xs := by
  obtain ⟨h1, h2⟩ := h
  refine ⟨h1, ?_⟩
  rcases h2 with h2 | ⟨g, cap, cur, rfl, hb, r⟩
  · exact .inl h2
  · exact .inr ⟨g, cap, cur, rfl, Nat.le_trans hB hb, r⟩
theorem size_contents : (Tryz.prog.info? 187).map (·.size) = some 4 := by kernel_rfl

set_option maxRecDepth 100000 in
set_option maxHeartbeats 2000000 in
theorem storeOpen_zero (w : World) (v : Value) (m : Nat) (hat : BytesAt w v (List.replicate (m * 64) 0)) (hm1 : 2 ≤ m) (hm2 : m ≤ 150) :
    Calls Tryz.prog 102 #[v] w fun r w' => ∃ s dp lv uv rv, r = .returned (.tuple #[ptrTo s, .agg #[.int .i64 0, .int .i64 0, .int .i64 0, rv], .int .i64 0]) ∧
      StAt w' s dp ((⟨1, 0, 0, ⟨List.replicate (m * 64) 0, 0, false⟩⟩ : Mod.Stv).putNumbers 0 0 0).2 lv uv ∧ (∀ k, StU s dp lv uv k → w.heap.size ≤ k) ∧ w'.ownsRow w.heap.size 155 3 rv (m - 2) (zRecs (m - 2)) ∧ Below w.heap.size w w' := by
  have hH := hide (fun y (hb : Below w.heap.size w y) => newestHead_zero y v (m * 64) (hat.below hb) (by omega) (by omega))
  have hR := hide (fun y (hb : Below w.heap.size w y) => readRecords_zero y v m 0 (hat.below hb) hm1 hm2)
  obtain ⟨L, hL⟩ : ∃ L, L = List.replicate (m * 64) (0 : UInt8) := ⟨_, rfl⟩
  have hLl : 128 ≤ L.length ∧ L.length ≤ 10000 := by rw [hL]; simp; omega
  rw [← hL] at hat ⊢
  have hD := hide (fun y (hb : Below w.heap.size w y) => diskNew_any y v L (hat.below hb) hLl.1 hLl.2)
  clear hat hL
  unfold zHead at hH
  unfold ptrTo
  go_enter Tryz.func102, Tryz.ntmps102
  go_upto_region 2 with (go_at_call 146; refine ((unhide hH) _ ((Below.refl _ _).alloc (Nat.le_refl _) _)).mono ?_; rintro r y ⟨rfl, hb1⟩)
  have hz1 := hb1.size
  simp only [World.size_alloc] at hz1
  have hb0 : Below w.heap.size w y := ((Below.refl _ _).alloc (Nat.le_refl _) _).trans (hb1.mono (by simp))
  have hy0 := (hb1.block w.heap.size (by simp)).trans (heap_alloc_new w _)
  obtain ⟨g5, hg5⟩ : ∃ g, g = y.heap.size := ⟨_, rfl⟩
  rw [← hg5]
  refine wp_world (fun x => x.heap[w.heap.size]? = some (.cells #[.int .i64 0, .int .i64 0, .int .i64 0, .slice none 0 0] 187 (0, 0)) ∧ x.heap[g5]? = some (.cells #[.int .u32 0, .int .u64 0, .int .i64 0, .int .i64 0, .int .i64 0] 217 (0, 0)) ∧ Below w.heap.size w x) ?_ ?_
  · exact ⟨(heap_alloc_old _ _ (by omega)).trans hy0, by rw [hg5]; exact heap_alloc_new _ _, hb0.alloc (by omega) _⟩
  have hg5w : w.heap.size < g5 := by omega
  clear hy0 hb0 hz1 hb1 hg5 hH
  rintro x ⟨h0, h5, hB⟩
  have e0 : x.cell? ⟨g5, 0, none⟩ = some (.int .u32 0) := blk_cell (i := 0) h5
  have H0 := hide h0
  have H5 := hide h5
  have HB := hide hB
  have hzx := lt_of_block h5
  clear h0 h5 hB
  go_upto_region 7 with (go_at_call 147; refine ((unhide hR) _ (unhide HB)).mono ?_; rintro r y2 ⟨rv, rfl, hrv, hb2⟩)
  have hrv := ownsRow_monoB hrv (B' := w.heap.size) (by omega)
  have hbw : Below w.heap.size w y2 := (unhide HB).trans (hb2.mono (by omega))
  have y0 := (hb2.block _ (by omega)).trans (unhide H0)
  have y5 := (hb2.block _ (by omega)).trans (unhide H5)
  obtain ⟨ra, rc, rfl, _⟩ := (RowO.of_own (ownsRow_monoB hrv (Nat.zero_le _))).shape
  have HRV := hide hrv
  have HBW := hide hbw
  have Y0 := hide y0
  have Y5 := hide y5
  have hzy := hbw.size
  have hg5y := lt_of_block y5
  clear hrv hbw y0 y5 hb2 HB H0 H5 hR e0 hzx
  refine wp_region_foot (by kernel_rfl)
    [fun u _ => u = v, fun u z => ∃ p, u = .pointer (some ⟨p, 0, none⟩) ∧ NewDk w.heap.size L p z, fun u _ => u = .pointer (some ⟨g5, 0, none⟩), fun u _ => u = .pointer (some ⟨g5, 0, none⟩), fun u _ => u = .int .u32 0, fun u _ => u = .int .u32 1, fun u _ => u = .agg #[.int .u32 1, .int .u64 0], fun u _ => u = .int .i64 0,
     fun u z => ∃ p, u = .agg #[.pointer (some ⟨p, 0, none⟩), .int .u32 1, .int .u64 0, .int .i64 0] ∧ NewDk w.heap.size L p z, fun u z => ∃ s, u = .pointer (some ⟨s, 0, none⟩) ∧ NewSt w.heap.size L s z, fun u z => ∃ s, u = .pointer (some ⟨s, 0, none⟩) ∧ NewSt w.heap.size L s z]
    [[(0, none)], [(30, some 0)], [(5, none)], [(32, some 2)], [(33, some 3)], [(34, some 4)], [(35, some 5)], [(6, none)], [(31, some 1), (36, some 6), (37, some 7)], [(38, some 8)], [(39, some 9)]] [some 30, some 31, some 32, some 33, some 34, some 35, some 36, some 37, some 38, some 39, some 9] [false, false, false, false, false, false, false, false, false, true, false, false, false, false, false, false, false, false, false, false, false, false, false, false, false, false, false, false, false, false, true, true, true, true, true, true, true, true, true, true, false, false, false, false, false, false, false, false, false]
    []
    (by kernel_rfl) (by kernel_rfl) (by kernel_rfl) (by kernel_rfl) (by kernel_rfl) ?_ ?_ ?_ ?_
  · repeat' (first | exact stable_eq _ | exact (fun _ _ _ h hb => h.imp fun _ h => ⟨h.1, newDk_below h.2 hb⟩) | exact (fun _ _ _ h hb => h.imp fun _ h => ⟨h.1, newSt_below h.2 hb⟩) | exact trivial | apply And.intro)
  · exact trivial
  · refine ⟨?_, ?_, ?_, ?_, ?_, ?_, ?_, ?_, ?_, ?_, ?_, trivial⟩
    all_goals
      intro a z hb hf
      have z5 := hb.blk (unhide Y5) (footBut_no (by intro q hq; cases hq))
      have hbz : Below w.heap.size w z := (unhide HBW).trans ((hb.below (B := y2.heap.size) (Nat.le_refl _) (fun j _ h => by
        obtain ⟨q, hq, _⟩ := h
        cases hq)).mono hzy)
      have e0 : z.cell? ⟨g5, 0, none⟩ = some (.int .u32 0) := blk_cell (i := 0) z5
      have HBZ := hide hbz
      clear z5 hb hbz
      simp only [PlanFacts, List.getD_cons_zero, List.getD_cons_succ, Array.getD_eq_getD_getElem?] at hf
      try simp at hf
    · go_simp
      exact ⟨_, rfl, Far.refl _ _, rfl⟩
    · have HC := hide ((unhide hD) z (unhide HBZ))
      have hzz := (unhide HBZ).size
      unfold ptrTo at HC
      go_simp
      refine (unhide HC).mono ?_
      rintro r z2 ⟨p, lv, rfl, k1, k2, k3⟩
      exact ⟨_, rfl, far_below k2, p, rfl, lv, k1, fun k hk => Nat.le_trans hzz (k3 k hk)⟩
    iterate 6
      · go_simp
        exact ⟨_, rfl, Far.refl _ _, rfl⟩
    · obtain ⟨⟨p, hp, hn⟩, hf⟩ := hf
      have HN := hide hn
      clear hn
      go_simp
      exact ⟨_, rfl, Far.refl _ _, p, rfl, unhide HN⟩
    · obtain ⟨p, hp, hn⟩ := hf
      have HN := hide hn
      have hzz := (unhide HBZ).size
      clear hn
      go_simp
      refine ⟨_, rfl, far_below ((Below.refl _ _).alloc (Nat.le_refl _) _), _, rfl, p, newDk_below (unhide HN) ((Below.refl _ _).alloc (Nat.le_refl _) _), hzz, heap_alloc_new _ _⟩
    · obtain ⟨s, hs, hn⟩ := hf
      have HN := hide hn
      clear hn
      go_simp
      exact ⟨_, rfl, Far.refl _ _, s, rfl, unhide HN⟩
  · intro f z hF hwd
    obtain ⟨s, hs9, dp, ⟨lv, hdk, hnew⟩, hsB, hsb⟩ := hwd.2.2.2.2.2.2.2.2.2.2.1
    have hbz : Below y2.heap.size y2 z := hF.below (Nat.le_refl _) (fun j _ h => by
      obtain ⟨q, hq, _⟩ := h
      cases hq)
    have ST : StAt z s dp ⟨1, 0, 0, ⟨L, 0, false⟩⟩ lv (.slice none 0 0) := ⟨hsb, hdk, by simp, by simp, by simp⟩
    have hnewS : ∀ k, StU s dp lv (.slice none 0 0) k → w.heap.size ≤ k := by
      rintro k (rfl | hk)
      · exact hsB
      · exact hnew k hk
    have z0 := (hbz.block _ (by omega)).trans (unhide Y0)
    have z5 := (hbz.block _ hg5y).trans (unhide Y5)
    have e2 : z.cell? ⟨g5, 2, none⟩ = some (.int .i64 0) := blk_cell (i := 2) z5
    have e3 : z.cell? ⟨g5, 3, none⟩ = some (.int .i64 0) := blk_cell (i := 3) z5
    have e4 : z.cell? ⟨g5, 4, none⟩ = some (.int .i64 0) := blk_cell (i := 4) z5
    have HW := hide (writeNumbers_any z s dp _ lv _ ST 0 0 0 (by omega) (by omega) (by omega))
    have hrz := ownsRow_keepB (w' := z) (unhide HRV) (fun g hg => hbz.block g (World.ownsRow.lt (unhide HRV) g hg).2)
    have HRZ := hide hrz
    have HBZ := hide ((unhide HBW).trans (hbz.mono hzy))
    have Z0 := hide z0
    have Z5 := hide z5
    have hSn : ¬ StU s dp lv (.slice none 0 0) w.heap.size := by
      rintro (h | h)
      · rw [← h, z0] at hsb
        cases hsb
      · exact dk_ne hdk z0 (by decide) (by decide) (by decide) h
    have hS5 : ¬ StU s dp lv (.slice none 0 0) g5 := by
      rintro (h | h)
      · rw [← h, z5] at hsb
        cases hsb
      · exact dk_ne hdk z5 (by decide) (by decide) (by decide) h
    have hSr : ∀ g, (Value.slice ra (m - 2) rc).ownBlock = some g → ¬ StU s dp lv (.slice none 0 0) g := by
      rintro g hg (h | h | h | h)
      · exact (RowO.of_own (ownsRow_monoB hrz (Nat.zero_le _))).ne hsb (by decide) (by rw [hg, h])
      · exact (RowO.of_own (ownsRow_monoB hrz (Nat.zero_le _))).ne hdk.blk (by decide) (by rw [hg, h])
      · exact (RowO.of_own (ownsRow_monoB hrz (Nat.zero_le _))).ty (RowO.of_own hdk.row) (by decide) hg h
      · cases h
    have hzz := hbz.size
    clear hwd hF hbz z0 z5 hdk hsb hrz HRV HBW Y0 Y5 hD ST
    simp only [mergeT, hs9]
    generalize f 30 = x30
    generalize f 31 = x31
    generalize f 32 = x32
    generalize f 33 = x33
    generalize f 34 = x34
    generalize f 35 = x35
    generalize f 36 = x36
    generalize f 37 = x37
    generalize f 38 = x38
    generalize f 39 = x39
    go_simp
    unfold ptrTo at HW
    go_upto_region 9 with (go_at_call 149; refine (unhide HW).mono ?_; rintro r z2 ⟨rfl, uv, k1, k2, k3⟩; replace k1 := hide k1; replace k2 := hide k2; replace k3 := hide k3)
    have K3 := unhide k3
    have z0 := K3.blk (unhide Z0) hSn
    have z5 := K3.blk (unhide Z5) hS5
    have hr2 := ownsRow_keepB (w' := z2) (unhide HRZ) (fun g hg => K3.rest g (World.ownsRow.lt (unhide HRZ) g hg).2 (hSr g hg))
    have hbz2 : Below w.heap.size w z2 := (unhide HBZ).trans (K3.below (by omega) (fun k hk h => by have := hnewS k h; omega))
    have HR2 := hide hr2
    have HB2 := hide hbz2
    have Z0' := hide z0
    have Z5' := hide z5
    have hz2 := hbz2.size
    have hz2g := lt_of_block z5
    have hzn := lt_of_block z0
    clear K3 z0 z5 hr2 hbz2 HRZ HBZ Z0 Z5 e2 e3 e4 HW
    refine wp_region_foot (by kernel_rfl)
      [fun u _ => u = .pointer (some ⟨s, 0, none⟩), fun u _ => u = .pointer (some ⟨g5, 2, none⟩), fun u _ => u = .agg #[.int .i64 0, .int .i64 0, .int .i64 0], fun u _ => u = .slice ra (m - 2) rc, fun u _ => u = .agg #[.int .i64 0, .int .i64 0, .int .i64 0, .slice ra (m - 2) rc], fun u _ => u = .pointer (some ⟨s, 0, none⟩),
       fun _ q => q.heap[w.heap.size]? = some (.cells #[.int .i64 0, .int .i64 0, .int .i64 0, .slice ra (m - 2) rc] 187 (0, 0)), fun u _ => u = .int .i64 0]
      [[(9, none)], [(5, none)], [(45, some 1)], [(8, none)], [(46, some 2), (47, some 3)], [(44, some 0)], [(3, none), (48, some 4)], []] [some 44, some 45, some 46, some 47, some 48, some 2, none, some 4] [false, false, true, false, true, false, false, false, false, false, false, false, false, false, false, false, false, false, false, false, false, false, false, false, false, false, false, false, false, false, false, false, false, false, false, false, false, false, false, false, false, false, false, false, true, true, true, true, true]
      [(6, fun k => k = w.heap.size)]
      (by kernel_rfl) (by kernel_rfl) (by kernel_rfl) (by kernel_rfl) (by kernel_rfl) ?_ ?_ ?_ ?_
    · repeat' (first | exact stable_eq _ | exact stable_blk _ _ | exact trivial | apply And.intro)
    · repeat' (first | exact trivial | exact .inl rfl | exact .inr (.inr (stableF_eq _ _)) | apply And.intro)
    · refine ⟨?_, ?_, ?_, ?_, ?_, ?_, ?_, ?_, trivial⟩
      all_goals
        intro a q hb hf
        have q5 := hb.blk (unhide Z5') (footBut_no (by intro p hp; simp at hp; subst hp; intro (e : g5 = w.heap.size); omega))
        have e2 : q.cell? ⟨g5, 2, none⟩ = some (.int .i64 0) := blk_cell (i := 2) q5
        have e3 : q.cell? ⟨g5, 3, none⟩ = some (.int .i64 0) := blk_cell (i := 3) q5
        have e4 : q.cell? ⟨g5, 4, none⟩ = some (.int .i64 0) := blk_cell (i := 4) q5
        clear q5
        simp only [PlanFacts, List.getD_cons_zero, List.getD_cons_succ, Array.getD_eq_getD_getElem?] at hf
        try simp at hf
      iterate 6
        · clear hb
          go_simp
          exact ⟨_, rfl, Far.refl _ _, rfl⟩
      · have q0 := hb.blk (unhide Z0') (by
          rintro ⟨p, hp, g1, g2, g3⟩
          simp at hp
          subst hp
          exact g1 rfl)
        clear hb
        rw [if_pos (by rfl)]
        refine wp_store_row 187 (.tmp 3) (.tmp 48) rfl w.heap.size #[.int .i64 0, .int .i64 0, .int .i64 0, .slice ra (m - 2) rc] (by simp [Act.eval, hf]) (by simp [Act.eval, hf]) 187 _ q0 (by rw [size_contents]; rfl) rfl (by rw [Array.all_eq_true_iff_forall_mem]; intro u hu; simp at hu; rcases hu with rfl | rfl <;> rfl) ?_
        exact ⟨_, rfl, footOf_of (.head _) (far_setRow _ _ _), setRow_heap _ _ _ _ _ _ q0⟩
      · clear hb
        go_simp
        exact ⟨_, rfl, Far.refl _ _, rfl⟩
    · intro f q hF hwd
      have h2 := hwd.2.2.2.2.2.1
      have h6 := hwd.2.2.2.2.2.2.1
      have h7 := hwd.2.2.2.2.2.2.2.1
      have q0 : q.cell? ⟨w.heap.size, 0, none⟩ = some (.int .i64 0) := blk_cell (i := 0) h6
      have q1 : q.cell? ⟨w.heap.size, 1, none⟩ = some (.int .i64 0) := blk_cell (i := 1) h6
      have q2 : q.cell? ⟨w.heap.size, 2, none⟩ = some (.int .i64 0) := blk_cell (i := 2) h6
      have q3 : q.cell? ⟨w.heap.size, 3, none⟩ = some (.slice ra (m - 2) rc) := blk_cell (i := 3) h6
      have hF : Far (fun k => k = w.heap.size) z2 q := hF.mono (fun k _ h => by
        obtain ⟨p, hp, h⟩ := h
        simp at hp
        subst hp
        exact h)
      have HF := hide hF
      clear hwd hF h6
      simp only [mergeT, h2, h7]
      generalize f 44 = x44
      generalize f 45 = x45
      generalize f 46 = x46
      generalize f 47 = x47
      generalize f 48 = x48
      go_simp
      go_wp2
      refine bodyPost_ret (v := .tuple #[.pointer (some ⟨s, 0, none⟩), .agg #[.int .i64 0, .int .i64 0, .int .i64 0, .slice ra (m - 2) rc], .int .i64 0]) (by simp [results, Tryz.results102, go_sem, q0, q1, q2, q3]) rfl ?_
      have hF := unhide HF
      have K2 := unhide k2
      have hnu : ∀ k, StU s dp lv uv k → w.heap.size ≤ k := by
        rintro k (h | h | h | h)
        · exact hnewS k (.inl h)
        · exact hnewS k (.inr (.inl h))
        · exact hnewS k (.inr (.inr (.inl h)))
        · rcases K2 with k2 | k2 | ⟨g, k2, k5⟩
          · rw [k2] at h; cases h
          · rw [k2] at h; cases h
          · rw [k2] at h; cases h; omega
      have hne : ¬ StU s dp lv uv w.heap.size := by
        rintro (h | h | h | h)
        · exact hSn (.inl h)
        · exact hSn (.inr (.inl h))
        · exact hSn (.inr (.inr (.inl h)))
        · exact (unhide k1).dk.un.ne (unhide Z0') (by decide) h
      exact ⟨s, dp, lv, uv, _, rfl, (unhide k1).far hF (fun k hk e => hne (by rw [← e]; exact hk)), hnu, ownsRow_keepB (unhide HR2) (fun g hg => hF.rest g (World.ownsRow.lt (unhide HR2) g hg).2 (fun e => (RowO.of_own (ownsRow_monoB (unhide HR2) (Nat.zero_le _))).ne (unhide Z0') (by decide) (by rw [hg, e]))), (unhide HB2).trans (hF.below (by omega) (fun k hk e => by omega))⟩
end Go.Proofs.YtamafdcnbcoegaaGreat
namespace Go.Proofs.YtamafdcnbcoegaaGreat
open Go.RowKit

theorem nodup_lt : ∀ (n : Nat) (l : List Nat), l.Nodup → (∀ x ∈ l, x < n) → l.length ≤ n
  | 0, [], _, _ => Nat.le_refl _
  | 0, x :: l, _, h => by have := h x (.head _); omega
  | n + 1, l, hn, h => by
    by_cases hm : n ∈ l
    · have h1 := List.length_erase_of_mem hm
      have h2 := nodup_lt n (l.erase n) (hn.erase n) (fun x hx => by
        have h3 := (hn.mem_erase_iff).1 hx
        have := h x h3.2
        have := h3.1
        omega)
      omega
    · have := nodup_lt n l hn (fun x hx => by
        have := h x hx
        have : x ≠ n := fun e => hm (e ▸ hx)
        omega)
      omega
end Go.Proofs.YtamafdcnbcoegaaGreat
namespace Go.Proofs.YtamafdcnbcoegaaGreat
open Go.RowKit

/-- What Says has laid: the frame's box, the answer's cells, the numbers so far. -/
structure SayLay (w x : World) (k e st q : Int) (b : ByteArray) (x0 x1 x2 : Int) : Prop where
  bel : Below w.heap.size w x
  size : w.heap.size + 2 < x.heap.size
  box : x.heap[w.heap.size]? = some (.cells #[.int .i64 k, .int .i64 e, .int .i64 st, .int .i64 q, .string b] 41 (0, 0))
  out : x.heap[w.heap.size + 1]? = some (.cells #[.int .i64 0, .int .i64 0, .int .i64 0] 98 (0, 0))
  num : x.heap[w.heap.size + 2]? = some (.cells #[.int .i64 x0, .int .i64 x1, .int .i64 x2] 98 (0, 0))
theorem SayLay.drew {w x : World} {k e st q : Int} {b : ByteArray} {x0 x1 x2 : Int} (h : SayLay w x k e st q b x0 x1 x2) (n : Nat) : SayLay w (x.drewN n) k e st q b x0 x1 x2 :=
  ⟨below_drewN h.bel n, h.size, h.box, h.out, h.num⟩
theorem say_new (w : World) (k e st q : Int) (b : ByteArray) : SayLay w (((w.alloc (.cells #[.int .i64 k, .int .i64 e, .int .i64 st, .int .i64 q, .string b] 41)).alloc (.cells #[.int .i64 0, .int .i64 0, .int .i64 0] 98)).alloc (.cells #[.int .i64 0, .int .i64 0, .int .i64 0] 98)) k e st q b 0 0 0 := by
  refine ⟨((((Below.refl _ _).alloc (Nat.le_refl _) _).alloc (by simp) _).alloc (by simp; omega) _), by simp, ?_, ?_, ?_⟩
  · rw [Below.heap_alloc _ _ _ (by simp; omega), Below.heap_alloc _ _ _ (by simp)]
    exact heap_alloc_new w _
  · rw [Below.heap_alloc _ _ _ (by simp)]
    have := heap_alloc_new (w.alloc (.cells #[.int .i64 k, .int .i64 e, .int .i64 st, .int .i64 q, .string b] 41)) (.cells #[.int .i64 0, .int .i64 0, .int .i64 0] 98)
    simpa using this
  · have := heap_alloc_new ((w.alloc (.cells #[.int .i64 k, .int .i64 e, .int .i64 st, .int .i64 q, .string b] 41)).alloc (.cells #[.int .i64 0, .int .i64 0, .int .i64 0] 98)) (.cells #[.int .i64 0, .int .i64 0, .int .i64 0] 98)
    simpa using this

/-- The numbers so far. -/
def sayN (sv : Nat → Nat) (s j : Nat) : Int := if j < s then sv j else 0
theorem SayLay.at {w x : World} {k e st q : Int} {b : ByteArray} {sv : Nat → Nat} {s' : Nat} (h : SayLay w x k e st q b (sayN sv s' 0) (sayN sv s' 1) (sayN sv s' 2)) (s : Nat) (hs : s < 3) : x.cell? ⟨w.heap.size + 2, s, none⟩ = some (.int .i64 (sayN sv s' s)) := by
  rw [blk_cell h.num]
  obtain rfl | rfl | rfl : s = 0 ∨ s = 1 ∨ s = 2 := by omega
  all_goals rfl
theorem SayLay.set {w x : World} {k e st q : Int} {b : ByteArray} {sv : Nat → Nat} {s : Nat} (h : SayLay w x k e st q b (sayN sv s 0) (sayN sv s 1) (sayN sv s 2)) (hs : s < 3) :
    SayLay w (x.setCell ⟨w.heap.size + 2, s, none⟩ (.int .i64 (sv s))) k e st q b (sayN sv (s + 1) 0) (sayN sv (s + 1) 1) (sayN sv (s + 1) 2) := by
  refine ⟨h.bel.setCell (p := ⟨w.heap.size + 2, s, none⟩) (by simp) _, by rw [World.size_setCell]; exact h.size, (blk_set_ne (by omega)).trans h.box, (blk_set_ne (by omega)).trans h.out, ?_⟩
  have := blk_set (j := s) (v := .int .i64 (sv s)) h.num
  rw [this]
  obtain rfl | rfl | rfl : s = 0 ∨ s = 1 ∨ s = 2 := by omega
  all_goals simp [sayN]
theorem SayLay.keep {w x : World} {k e st q : Int} {b : ByteArray} {sv : Nat → Nat} {s : Nat} (h : SayLay w x k e st q b (sayN sv s 0) (sayN sv s 1) (sayN sv s 2)) (hs : s < 3) (h0 : sv s = 0) : SayLay w x k e st q b (sayN sv (s + 1) 0) (sayN sv (s + 1) 1) (sayN sv (s + 1) 2) := by
  have e : ∀ j, sayN sv (s + 1) j = sayN sv s j := by
    intro j
    unfold sayN
    by_cases hj : j = s
    · subst hj; simp [h0]
    · by_cases hj2 : j < s
      · simp [hj2, show j < s + 1 by omega]
      · simp [hj2, show ¬ j < s + 1 by omega]
  rw [e, e, e]
  exact h

set_option maxRecDepth 100000 in
set_option maxHeartbeats 1000000 in
theorem refSays_other {w : World} {p : Nat} {a : Mod.Ag} {r : RRest} {kv hv : Nat → Value} (R : RefAt w p a r kv hv) (k e st q : Int) (b : ByteArray) (he : ¬ e = a.epoch) :
    Calls Tryz.prog 173 #[.pointer (some ⟨p, 0, none⟩), .agg #[.int .i64 k, .int .i64 e, .int .i64 st, .int .i64 q, .string b]] w fun x w' => x = .returned (.agg #[.int .i64 0, .int .i64 0, .int .i64 0]) ∧ Below w.heap.size w w' := by
  have c0 := blk_cell (i := 0) R.blk
  simp [refCells] at c0
  have hpl := lt_of_block R.blk
  have hee : (e != (a.epoch : Int)) = true := by simpa using he
  have C0 := hide c0
  clear R c0
  generalize (a.epoch : Int) = ep at *
  go_enter Tryz.func173, Tryz.ntmps173
  go_upto_region 2 with fail
  refine wp_world (fun x => SayLay w x k e st q b 0 0 0) (say_new w k e st q b) ?_
  intro x L
  have y1 := blk_cell (i := 1) L.box
  have c0 := (L.bel.cell (p := ⟨p, 0, none⟩) hpl).trans (unhide C0)
  have z0 := blk_cell (i := 0) L.num
  have z1 := blk_cell (i := 1) L.num
  have z2 := blk_cell (i := 2) L.num
  have o0 := blk_cell (i := 0) L.out
  have o1 := blk_cell (i := 1) L.out
  have o2 := blk_cell (i := 2) L.out
  have f0 := blk_free (i := 0) L.out
  have f1 := blk_free (i := 1) L.out
  have f2 := blk_free (i := 2) L.out
  simp at y1 z0 z1 z2 o0 o1 o2
  have LL := hide L
  clear L
  go_quiet (fail)
  go_wp2
  exact bodyPost_ret (v := .agg #[.int .i64 0, .int .i64 0, .int .i64 0]) (by simp [results, Tryz.results173, go_sem, *]) rfl ⟨rfl, (((below_drewN (unhide LL).bel _).setCell (p := ⟨w.heap.size + 1, 0, none⟩) (by simp) _).setCell (p := ⟨w.heap.size + 1, 1, none⟩) (by simp) _).setCell (p := ⟨w.heap.size + 1, 2, none⟩) (by simp) _⟩
set_option maxRecDepth 100000 in
set_option maxHeartbeats 2000000 in
theorem refSays_2 {w : World} {p : Nat} {a : Mod.Ag} {r : RRest} {kv hv : Nat → Value} (R : RefAt w p a r kv hv) (st q : Int) (b : ByteArray) (hb : b.size = 12) (sv : Nat → Nat) (hsv : ∀ s, s < 3 → sv s = a.gone s (Wire.numAt b.data.toList (4 * s))) :
    Calls Tryz.prog 173 #[.pointer (some ⟨p, 0, none⟩), .agg #[.int .i64 2, .int .i64 a.epoch, .int .i64 st, .int .i64 q, .string b]] w fun x w' => x = .returned (.agg #[.int .i64 (sv 0), .int .i64 (sv 1), .int .i64 (sv 2)]) ∧ Below w.heap.size w w' := by
  have HSV := hide hsv
  have HN := fun s (hs : s < 3) w => hide (refNumber_any b (4 * s) w (by omega) (by omega))
  clear hsv hb
  have c0 := blk_cell (i := 0) R.blk
  have c2 := blk_cell (i := 2) R.blk
  simp [refCells] at c0 c2
  have hpl := lt_of_block R.blk
  have hee : ((a.epoch : Int) != (a.epoch : Int)) = false := by simp
  have C0 := hide c0
  have C2 := hide c2
  have RR := hide R
  clear R c0 c2
  generalize hep : (a.epoch : Int) = ep at hee C0 ⊢
  clear hep
  go_enter Tryz.func173, Tryz.ntmps173
  go_upto_region 2 with fail
  refine wp_world (fun x => SayLay w x 2 ep st q b 0 0 0) (say_new w 2 ep st q b) ?_
  intro x L
  have y1 := blk_cell (i := 1) L.box
  have c0 := (L.bel.cell (p := ⟨p, 0, none⟩) hpl).trans (unhide C0)
  simp at y1
  have LL := hide L
  clear L
  go_quiet (fail)
  have LL1 := hide ((unhide LL).drew nq)
  clear y1 c0
  go_wp2
  go_loopw [6] (fun i wr => ∃ s : Nat, s ≤ 3 ∧ i = .int .i64 s ∧ SayLay w wr 2 ep st q b (sayN sv s 0) (sayN sv s 1) (sayN sv s 2)) (fun i _ => 3 - (intOf i).toNat)
  case atStart => exact ⟨0, by omega, rfl, unhide LL1⟩
  case round =>
    obtain ⟨s, hs, rfl, L⟩ := hrel
    by_cases hlt : s < 3
    · have c2 := (L.bel.cell (p := ⟨p, 2, none⟩) hpl).trans (unhide C2)
      have y0 := blk_cell (i := 0) L.box
      have y2 := blk_cell (i := 2) L.box
      have y3 := blk_cell (i := 3) L.box
      have y4 := blk_cell (i := 4) L.box
      simp at y0 y2 y3 y4
      have zs := L.at s hlt
      have zf := blk_free (i := s) L.num
      have hs3 : (s : Int) < 3 := by omega
      have R1 := hide ((unhide RR).far (far_below (E := fun _ => False) (L.bel.mono (Nat.le_refl _))) (fun _ _ h => h))
      have LW := hide L
      clear L
      have hnum := numAt_nonneg b.data.toList (4 * s)
      have HG := hide ((unhide R1))
      have HNs := HN s hlt wr
      have HSs := hide ((unhide HSV) s hlt)
      have e4 : ((4 * s : Nat) : Int) = 4 * (s : Int) := by omega
      rw [e4] at HNs
      generalize Wire.numAt b.data.toList (4 * s) = nm at *
      obtain ⟨m0, m1⟩ := hnum
      go_wp2_with (first | (go_at_call 166; refine (unhide HNs).mono ?_; rintro x1 w1 ⟨rfl, k1, rfl⟩) | (go_at_call 209; refine (gone_any ((unhide HG).far (far_below (E := fun _ => False) (below_drewN (Below.refl _ _) _)) (fun _ _ h => h)) s hlt nm (by omega)).mono ?_; rintro x2 w2 ⟨rfl, rfl⟩; rw [← unhide HSs]))
      go_roundw
      case rel => exact ⟨s + 1, by omega, by go_num, ((unhide LW).drew _).set hlt⟩
      case measure => simp [intOf]; omega
    · have hs3 : s = 3 := by omega
      subst hs3
      have z0 := blk_cell (i := 0) L.num
      have z1 := blk_cell (i := 1) L.num
      have z2 := blk_cell (i := 2) L.num
      have o0 := blk_cell (i := 0) L.out
      have o1 := blk_cell (i := 1) L.out
      have o2 := blk_cell (i := 2) L.out
      have f0 := blk_free (i := 0) L.out
      have f1 := blk_free (i := 1) L.out
      have f2 := blk_free (i := 2) L.out
      simp [sayN] at z0 z1 z2 o0 o1 o2
      have LW := hide L
      clear L
      go_wp2
      exact bodyPost_ret (v := .agg #[.int .i64 (sv 0), .int .i64 (sv 1), .int .i64 (sv 2)]) (by simp [results, Tryz.results173, go_sem, *]) rfl ⟨rfl, (((unhide LW).bel.setCell (p := ⟨w.heap.size + 1, 0, none⟩) (by simp) _).setCell (p := ⟨w.heap.size + 1, 1, none⟩) (by simp) _).setCell (p := ⟨w.heap.size + 1, 2, none⟩) (by simp) _⟩
end Go.Proofs.YtamafdcnbcoegaaGreat
namespace Go.Proofs.YtamafdcnbcoegaaGreat
open Go.RowKit

set_option maxRecDepth 100000 in
set_option maxHeartbeats 2000000 in
theorem refSays_4 {w : World} {p : Nat} {a : Mod.Ag} {r : RRest} {kv hv : Nat → Value} (R : RefAt w p a r kv hv) (st q : Int) (b : ByteArray) (hq : 0 ≤ q ∧ q ≤ 2147483647) (sv : Nat → Nat) (hsv : ∀ s, s < 3 → sv s = if st = s ∧ a.welcome = true then a.gone s q else 0) :
    Calls Tryz.prog 173 #[.pointer (some ⟨p, 0, none⟩), .agg #[.int .i64 4, .int .i64 a.epoch, .int .i64 st, .int .i64 q, .string b]] w fun x w' => x = .returned (.agg #[.int .i64 (sv 0), .int .i64 (sv 1), .int .i64 (sv 2)]) ∧ Below w.heap.size w w' := by
  have HSV := hide hsv
  obtain ⟨hq0, hq1⟩ := hq
  clear hsv
  have c0 := blk_cell (i := 0) R.blk
  have c2 := blk_cell (i := 2) R.blk
  simp [refCells] at c0 c2
  have hpl := lt_of_block R.blk
  have hee : ((a.epoch : Int) != (a.epoch : Int)) = false := by simp
  have C0 := hide c0
  have C2 := hide c2
  have RR := hide R
  clear R c0 c2
  generalize hwel : a.welcome = wel at *
  clear hwel
  generalize hep : (a.epoch : Int) = ep at hee C0 ⊢
  clear hep
  go_enter Tryz.func173, Tryz.ntmps173
  go_upto_region 2 with fail
  refine wp_world (fun x => SayLay w x 4 ep st q b 0 0 0) (say_new w 4 ep st q b) ?_
  intro x L
  have y1 := blk_cell (i := 1) L.box
  have c0 := (L.bel.cell (p := ⟨p, 0, none⟩) hpl).trans (unhide C0)
  simp at y1
  have LL := hide L
  clear L
  go_quiet (fail)
  have LL1 := hide ((unhide LL).drew nq)
  clear y1 c0
  go_wp2
  go_loopw [6] (fun i wr => ∃ s : Nat, s ≤ 3 ∧ i = .int .i64 s ∧ SayLay w wr 4 ep st q b (sayN sv s 0) (sayN sv s 1) (sayN sv s 2)) (fun i _ => 3 - (intOf i).toNat)
  case atStart => exact ⟨0, by omega, rfl, unhide LL1⟩
  case round =>
    obtain ⟨s, hs, rfl, L⟩ := hrel
    by_cases hlt : s < 3
    · have c2 := (L.bel.cell (p := ⟨p, 2, none⟩) hpl).trans (unhide C2)
      have y0 := blk_cell (i := 0) L.box
      have y2 := blk_cell (i := 2) L.box
      have y3 := blk_cell (i := 3) L.box
      have y4 := blk_cell (i := 4) L.box
      simp at y0 y2 y3 y4
      have zs := L.at s hlt
      have zf := blk_free (i := s) L.num
      have hs3 : (s : Int) < 3 := by omega
      have R1 := hide ((unhide RR).far (far_below (E := fun _ => False) (L.bel.mono (Nat.le_refl _))) (fun _ _ h => h))
      have LW := hide L
      clear L
      have HG := hide (gone_any (unhide R1) s hlt q (by omega))
      have HSs := hide ((unhide HSV) s hlt)
      by_cases hst : st = s
      · cases wel
        · have HZ := hide (show sv s = 0 by rw [unhide HSs, if_neg (by simp)])
          go_wp2
          go_roundw
          case rel => exact ⟨s + 1, by omega, by go_num, (unhide LW).keep hlt (unhide HZ)⟩
          case measure => simp [intOf]; omega
        · have HZ := hide (show sv s = a.gone s q by rw [unhide HSs, if_pos ⟨hst, rfl⟩])
          have hst2 : (st == (s : Int)) = true := by simpa using hst
          clear hst
          go_wp2_with (go_at_call 209; refine (unhide HG).mono ?_; rintro x2 w2 ⟨rfl, rfl⟩; rw [← unhide HZ])
          go_roundw
          case rel => exact ⟨s + 1, by omega, by go_num, (unhide LW).set hlt⟩
          case measure => simp [intOf]; omega
      · have HZ := hide (show sv s = 0 by rw [unhide HSs, if_neg (fun h => hst h.1)])
        have hst2 : (st == (s : Int)) = false := by simpa using hst
        go_wp2
        go_roundw
        case rel => exact ⟨s + 1, by omega, by go_num, (unhide LW).keep hlt (unhide HZ)⟩
        case measure => simp [intOf]; omega
    · have hs3 : s = 3 := by omega
      subst hs3
      have z0 := blk_cell (i := 0) L.num
      have z1 := blk_cell (i := 1) L.num
      have z2 := blk_cell (i := 2) L.num
      have o0 := blk_cell (i := 0) L.out
      have o1 := blk_cell (i := 1) L.out
      have o2 := blk_cell (i := 2) L.out
      have f0 := blk_free (i := 0) L.out
      have f1 := blk_free (i := 1) L.out
      have f2 := blk_free (i := 2) L.out
      simp [sayN] at z0 z1 z2 o0 o1 o2
      have LW := hide L
      clear L
      go_wp2
      exact bodyPost_ret (v := .agg #[.int .i64 (sv 0), .int .i64 (sv 1), .int .i64 (sv 2)]) (by simp [results, Tryz.results173, go_sem, *]) rfl ⟨rfl, (((unhide LW).bel.setCell (p := ⟨w.heap.size + 1, 0, none⟩) (by simp) _).setCell (p := ⟨w.heap.size + 1, 1, none⟩) (by simp) _).setCell (p := ⟨w.heap.size + 1, 2, none⟩) (by simp) _⟩
set_option maxRecDepth 100000 in
set_option maxHeartbeats 2000000 in
theorem refSays_no {w : World} {p : Nat} {a : Mod.Ag} {r : RRest} {kv hv : Nat → Value} (R : RefAt w p a r kv hv) (k st q : Int) (b : ByteArray) (h2 : ¬ k = 2) (h4 : ¬ k = 4) (sv : Nat → Nat) (hsv : ∀ s, s < 3 → sv s = 0) :
    Calls Tryz.prog 173 #[.pointer (some ⟨p, 0, none⟩), .agg #[.int .i64 k, .int .i64 a.epoch, .int .i64 st, .int .i64 q, .string b]] w fun x w' => x = .returned (.agg #[.int .i64 (sv 0), .int .i64 (sv 1), .int .i64 (sv 2)]) ∧ Below w.heap.size w w' := by
  have HSV := hide hsv
  have k2 : (k == 2) = false := by simpa using h2
  have k4 : (k == 4) = false := by simpa using h4
  clear hsv h2 h4
  have c0 := blk_cell (i := 0) R.blk
  have c2 := blk_cell (i := 2) R.blk
  simp [refCells] at c0 c2
  have hpl := lt_of_block R.blk
  have hee : ((a.epoch : Int) != (a.epoch : Int)) = false := by simp
  have C0 := hide c0
  have C2 := hide c2
  have RR := hide R
  clear R c0 c2
  generalize hep : (a.epoch : Int) = ep at hee C0 ⊢
  clear hep
  go_enter Tryz.func173, Tryz.ntmps173
  go_upto_region 2 with fail
  refine wp_world (fun x => SayLay w x k ep st q b 0 0 0) (say_new w k ep st q b) ?_
  intro x L
  have y1 := blk_cell (i := 1) L.box
  have c0 := (L.bel.cell (p := ⟨p, 0, none⟩) hpl).trans (unhide C0)
  simp at y1
  have LL := hide L
  clear L
  go_quiet (fail)
  have LL1 := hide ((unhide LL).drew nq)
  clear y1 c0
  go_wp2
  go_loopw [6] (fun i wr => ∃ s : Nat, s ≤ 3 ∧ i = .int .i64 s ∧ SayLay w wr k ep st q b (sayN sv s 0) (sayN sv s 1) (sayN sv s 2)) (fun i _ => 3 - (intOf i).toNat)
  case atStart => exact ⟨0, by omega, rfl, unhide LL1⟩
  case round =>
    obtain ⟨s, hs, rfl, L⟩ := hrel
    by_cases hlt : s < 3
    · have c2 := (L.bel.cell (p := ⟨p, 2, none⟩) hpl).trans (unhide C2)
      have y0 := blk_cell (i := 0) L.box
      have y2 := blk_cell (i := 2) L.box
      have y3 := blk_cell (i := 3) L.box
      have y4 := blk_cell (i := 4) L.box
      simp at y0 y2 y3 y4
      have zs := L.at s hlt
      have zf := blk_free (i := s) L.num
      have hs3 : (s : Int) < 3 := by omega
      have R1 := hide ((unhide RR).far (far_below (E := fun _ => False) (L.bel.mono (Nat.le_refl _))) (fun _ _ h => h))
      have LW := hide L
      clear L
      go_wp2
      go_roundw
      case rel => exact ⟨s + 1, by omega, by go_num, (unhide LW).keep hlt ((unhide HSV) s hlt)⟩
      case measure => simp [intOf]; omega
    · have hs3 : s = 3 := by omega
      subst hs3
      have z0 := blk_cell (i := 0) L.num
      have z1 := blk_cell (i := 1) L.num
      have z2 := blk_cell (i := 2) L.num
      have o0 := blk_cell (i := 0) L.out
      have o1 := blk_cell (i := 1) L.out
      have o2 := blk_cell (i := 2) L.out
      have f0 := blk_free (i := 0) L.out
      have f1 := blk_free (i := 1) L.out
      have f2 := blk_free (i := 2) L.out
      simp [sayN] at z0 z1 z2 o0 o1 o2
      have LW := hide L
      clear L
      go_wp2
      exact bodyPost_ret (v := .agg #[.int .i64 (sv 0), .int .i64 (sv 1), .int .i64 (sv 2)]) (by simp [results, Tryz.results173, go_sem, *]) rfl ⟨rfl, (((unhide LW).bel.setCell (p := ⟨w.heap.size + 1, 0, none⟩) (by simp) _).setCell (p := ⟨w.heap.size + 1, 1, none⟩) (by simp) _).setCell (p := ⟨w.heap.size + 1, 2, none⟩) (by simp) _⟩

/-- Says, of any proper frame. -/
theorem refSays_any {w : World} {p : Nat} {a : Mod.Ag} {r : RRest} {kv hv : Nat → Value} (R : RefAt w p a r kv hv) (k e st q : Int) (b : ByteArray) (h2 : k = 2 → b.size = 12) (h4 : k = 4 → 0 ≤ q ∧ q ≤ 2147483647) :
    Calls Tryz.prog 173 #[.pointer (some ⟨p, 0, none⟩), .agg #[.int .i64 k, .int .i64 e, .int .i64 st, .int .i64 q, .string b]] w fun x w' =>
      x = .returned (.agg #[.int .i64 (a.says k e st q b 0), .int .i64 (a.says k e st q b 1), .int .i64 (a.says k e st q b 2)]) ∧ Below w.heap.size w w' := by
  by_cases he : e = a.epoch
  · subst he
    by_cases hk2 : k = 2
    · subst hk2
      exact refSays_2 R st q b (h2 rfl) _ (fun s _ => by simp [Mod.Ag.says])
    by_cases hk4 : k = 4
    · subst hk4
      exact refSays_4 R st q b (h4 rfl) _ (fun s _ => by simp [Mod.Ag.says])
    · exact refSays_no R k st q b hk2 hk4 _ (fun s _ => by simp [Mod.Ag.says, hk2, hk4])
  · have e0 : ∀ s, a.says k e st q b s = 0 := fun s => by simp [Mod.Ag.says, he]
    simp only [e0]
    exact refSays_other R k e st q b he
end Go.Proofs.YtamafdcnbcoegaaGreat
namespace Go.Proofs.YtamafdcnbcoegaaGreat
open Go.RowKit

/-- The frame's box ahead of the agent's own walk. -/
structure DLay (w x : World) (p : Nat) (a : Mod.Ag) (r : RRest) (kv hv : Nat → Value) (k e st q : Int) (b : ByteArray) : Prop where
  bel : Below w.heap.size w x
  box : x.heap[w.heap.size]? = some (.cells #[.int .i64 k, .int .i64 e, .int .i64 st, .int .i64 q, .string b] 41 (0, 0))
  ref : RefAt x p a r kv hv
theorem dlay_new {w : World} {p : Nat} {a : Mod.Ag} {r : RRest} {kv hv : Nat → Value} (R : RefAt w p a r kv hv) (k e st q : Int) (b : ByteArray) : DLay w (w.alloc (.cells #[.int .i64 k, .int .i64 e, .int .i64 st, .int .i64 q, .string b] 41)) p a r kv hv k e st q b :=
  ⟨(Below.refl _ _).alloc (Nat.le_refl _) _, heap_alloc_new w _, R.far (far_below (E := fun _ => False) ((Below.refl _ _).alloc (Nat.le_refl _) _)) (fun _ _ h => h)⟩
theorem DLay.drew {w x : World} {p : Nat} {a : Mod.Ag} {r : RRest} {kv hv : Nat → Value} {k e st q : Int} {b : ByteArray} (h : DLay w x p a r kv hv k e st q b) (n : Nat) : DLay w (x.drewN n) p a r kv hv k e st q b :=
  ⟨below_drewN h.bel n, h.box, h.ref.far (far_below (E := fun _ => False) (below_drewN (Below.refl _ _) n)) (fun _ _ h => h)⟩
theorem RefAt.fenced {w : World} {p : Nat} {a : Mod.Ag} {r : RRest} {kv hv : Nat → Value} (R : RefAt w p a r kv hv) (v : Bool) : RefAt (w.setCell ⟨p, 3, none⟩ (.bool v)) p { a with fenced := v } r kv hv := by
  have hset := far_set w p 3 (.bool v)
  exact ⟨by have := blk_set (j := 3) (v := .bool v) R.blk; rw [this]; rfl, fun t ht => (R.kept t ht).far hset (fun g hg hgp => (R.kept t ht).ne R.blk (by decide) (by rw [hg, hgp])), fun t ht => (R.held t ht).far hset (fun g hg hgp => (R.held t ht).ne R.blk (by decide) (by rw [hg, hgp])), R.apk, R.aph, R.ep, R.tk, R.bs, R.kl, R.hl⟩
theorem RefAt.welcome {w : World} {p : Nat} {a : Mod.Ag} {r : RRest} {kv hv : Nat → Value} (R : RefAt w p a r kv hv) (v : Bool) : RefAt (w.setCell ⟨p, 2, none⟩ (.bool v)) p { a with welcome := v } r kv hv := by
  have hset := far_set w p 2 (.bool v)
  exact ⟨by have := blk_set (j := 2) (v := .bool v) R.blk; rw [this]; rfl, fun t ht => (R.kept t ht).far hset (fun g hg hgp => (R.kept t ht).ne R.blk (by decide) (by rw [hg, hgp])), fun t ht => (R.held t ht).far hset (fun g hg hgp => (R.held t ht).ne R.blk (by decide) (by rw [hg, hgp])), R.apk, R.aph, R.ep, R.tk, R.bs, R.kl, R.hl⟩
/-- An agent's memory behind steps that wrote its own blocks alone. -/
theorem refStep_of {w x : World} {p : Nat} {a' : Mod.Ag} {r : RRest} {kv hv : Nat → Value} (R : RefAt x p a' r kv hv) (F : Far (RefU p kv hv) w x) : RefStep w x p a' r kv hv := ⟨kv, hv, R, F, fun _ h => .inl h⟩
set_option maxRecDepth 100000 in
set_option maxHeartbeats 2000000 in
theorem refDeliver_fence {w : World} {p : Nat} {a : Mod.Ag} {r : RRest} {kv hv : Nat → Value} (R : RefAt w p a r kv hv) (k e st q : Int) (b : ByteArray) (hk : k = 5) (he : (a.epoch : Int) < e) :
    Calls Tryz.prog 174 #[.pointer (some ⟨p, 0, none⟩), .agg #[.int .i64 k, .int .i64 e, .int .i64 st, .int .i64 q, .string b]] w fun x w' => x = .returned (.tuple #[]) ∧ RefStep w w' p { a with fenced := true } r kv hv := by
  have k5 : (k == 5) = true := by simpa using hk
  clear hk
  have DD := hide (dlay_new R k e st q b)
  have hpl := lt_of_block R.blk
  generalize hep : (a.epoch : Int) = ep at *
  go_enter Tryz.func174, Tryz.ntmps174
  go_upto_region 1 with fail
  refine wp_world (fun x => DLay w x p a r kv hv k e st q b) (unhide DD) ?_
  clear DD R
  intro x L
  have y0 := blk_cell (i := 0) L.box
  have y1 := blk_cell (i := 1) L.box
  have c0 := blk_cell (i := 0) L.ref.blk
  have c2 := blk_cell (i := 2) L.ref.blk
  have f2 := blk_free (i := 2) L.ref.blk
  have c3 := blk_cell (i := 3) L.ref.blk
  have f3 := blk_free (i := 3) L.ref.blk
  simp [refCells] at y0 y1 c0 c2 c3
  rw [hep] at c0
  have LL := hide L
  clear L hep
  go_quiet (fail)
  go_wp2
  refine bodyPost_ret (results_none rfl _ _ _) rfl ?_
  have L1 := (unhide LL).drew nq
  exact ⟨rfl, refStep_of (L1.ref.fenced true) ((far_below L1.bel).trans (far_set _ p 3 (.bool true)) (fun k _ h => .inl h))⟩

end Go.Proofs.YtamafdcnbcoegaaGreat
namespace Go.Proofs.YtamafdcnbcoegaaGreat
open Go.RowKit

set_option maxRecDepth 100000 in
set_option maxHeartbeats 2000000 in
theorem refDeliver_other5 {w : World} {p : Nat} {a : Mod.Ag} {r : RRest} {kv hv : Nat → Value} (R : RefAt w p a r kv hv) (k e st q : Int) (b : ByteArray) (hk : k = 5) (hg : ¬ (a.epoch : Int) < e) (he : ¬ e = a.epoch) :
    Calls Tryz.prog 174 #[.pointer (some ⟨p, 0, none⟩), .agg #[.int .i64 k, .int .i64 e, .int .i64 st, .int .i64 q, .string b]] w fun x w' => x = .returned (.tuple #[]) ∧ RefStep w w' p a r kv hv := by
  have k5 : (k == 5) = true := by simpa using hk
  have ee : (e != (a.epoch : Int)) = true := by simpa using he
  clear hk he
  have DD := hide (dlay_new R k e st q b)
  have hpl := lt_of_block R.blk
  generalize hep : (a.epoch : Int) = ep at *
  have hd : decide (ep < e) = false := by simpa using hg
  go_enter Tryz.func174, Tryz.ntmps174
  go_upto_region 1 with fail
  refine wp_world (fun x => DLay w x p a r kv hv k e st q b) (unhide DD) ?_
  clear DD R
  intro x L
  have y0 := blk_cell (i := 0) L.box
  have y1 := blk_cell (i := 1) L.box
  have c0 := blk_cell (i := 0) L.ref.blk
  have c2 := blk_cell (i := 2) L.ref.blk
  have f2 := blk_free (i := 2) L.ref.blk
  have c3 := blk_cell (i := 3) L.ref.blk
  have f3 := blk_free (i := 3) L.ref.blk
  simp [refCells] at y0 y1 c0 c2 c3
  rw [hep] at c0
  have LL := hide L
  clear L hep
  go_quiet (fail)
  go_wp2
  go_quiet (fail)
  go_wp2
  refine bodyPost_ret (results_none rfl _ _ _) rfl ?_
  exact ⟨rfl, refStep_of (a' := a) (((unhide LL).drew _).drew _).ref (far_below (((unhide LL).drew _).drew _).bel)⟩
set_option maxRecDepth 100000 in
set_option maxHeartbeats 2000000 in
theorem refDeliver_other {w : World} {p : Nat} {a : Mod.Ag} {r : RRest} {kv hv : Nat → Value} (R : RefAt w p a r kv hv) (k e st q : Int) (b : ByteArray) (hk : ¬ k = 5) (he : ¬ e = a.epoch) :
    Calls Tryz.prog 174 #[.pointer (some ⟨p, 0, none⟩), .agg #[.int .i64 k, .int .i64 e, .int .i64 st, .int .i64 q, .string b]] w fun x w' => x = .returned (.tuple #[]) ∧ RefStep w w' p a r kv hv := by
  have k5 : (k == 5) = false := by simpa using hk
  have ee : (e != (a.epoch : Int)) = true := by simpa using he
  clear hk he
  have DD := hide (dlay_new R k e st q b)
  have hpl := lt_of_block R.blk
  generalize hep : (a.epoch : Int) = ep at *
  go_enter Tryz.func174, Tryz.ntmps174
  go_upto_region 1 with fail
  refine wp_world (fun x => DLay w x p a r kv hv k e st q b) (unhide DD) ?_
  clear DD R
  intro x L
  have y0 := blk_cell (i := 0) L.box
  have y1 := blk_cell (i := 1) L.box
  have c0 := blk_cell (i := 0) L.ref.blk
  have c2 := blk_cell (i := 2) L.ref.blk
  have f2 := blk_free (i := 2) L.ref.blk
  have c3 := blk_cell (i := 3) L.ref.blk
  have f3 := blk_free (i := 3) L.ref.blk
  simp [refCells] at y0 y1 c0 c2 c3
  rw [hep] at c0
  have LL := hide L
  clear L hep
  go_quiet (fail)
  go_wp2
  go_quiet (fail)
  go_wp2
  refine bodyPost_ret (results_none rfl _ _ _) rfl ?_
  exact ⟨rfl, refStep_of (a' := a) (((unhide LL).drew _).drew _).ref (far_below (((unhide LL).drew _).drew _).bel)⟩
set_option maxRecDepth 100000 in
set_option maxHeartbeats 2000000 in
theorem refDeliver_reset {w : World} {p : Nat} {a : Mod.Ag} {r : RRest} {kv hv : Nat → Value} (R : RefAt w p a r kv hv) (k e st q : Int) (b : ByteArray) (hk : k = 5) (he : e = a.epoch) :
    Calls Tryz.prog 174 #[.pointer (some ⟨p, 0, none⟩), .agg #[.int .i64 k, .int .i64 e, .int .i64 st, .int .i64 q, .string b]] w fun x w' => x = .returned (.tuple #[]) ∧ RefStep w w' p { a with welcome := false } r kv hv := by
  have k5 : (k == 5) = true := by simpa using hk
  have hg : ¬ (a.epoch : Int) < e := by omega
  have ee : (e != (a.epoch : Int)) = false := by simpa using he
  clear hk he
  have DD := hide (dlay_new R k e st q b)
  have hpl := lt_of_block R.blk
  generalize hep : (a.epoch : Int) = ep at *
  have hd : decide (ep < e) = false := by simpa using hg
  go_enter Tryz.func174, Tryz.ntmps174
  go_upto_region 1 with fail
  refine wp_world (fun x => DLay w x p a r kv hv k e st q b) (unhide DD) ?_
  clear DD R
  intro x L
  have y0 := blk_cell (i := 0) L.box
  have y1 := blk_cell (i := 1) L.box
  have c0 := blk_cell (i := 0) L.ref.blk
  have c2 := blk_cell (i := 2) L.ref.blk
  have f2 := blk_free (i := 2) L.ref.blk
  have c3 := blk_cell (i := 3) L.ref.blk
  have f3 := blk_free (i := 3) L.ref.blk
  simp [refCells] at y0 y1 c0 c2 c3
  rw [hep] at c0
  have LL := hide L
  clear L hep
  go_quiet (fail)
  go_wp2
  go_quiet (fail)
  go_wp2
  refine bodyPost_end (results_none rfl _ _ _) rfl ?_
  have L1 := (unhide LL).drew nq
  exact ⟨rfl, refStep_of ((((unhide LL).drew _).ref).welcome false) ((far_below ((unhide LL).drew _).bel).trans (far_set _ p 2 (.bool false)) (fun k _ h => .inl h))⟩
set_option maxRecDepth 100000 in
set_option maxHeartbeats 2000000 in
theorem refDeliver_none {w : World} {p : Nat} {a : Mod.Ag} {r : RRest} {kv hv : Nat → Value} (R : RefAt w p a r kv hv) (k e st q : Int) (b : ByteArray) (h5 : ¬ k = 5) (h2 : ¬ k = 2) (h4 : ¬ k = 4) (he : e = a.epoch) :
    Calls Tryz.prog 174 #[.pointer (some ⟨p, 0, none⟩), .agg #[.int .i64 k, .int .i64 e, .int .i64 st, .int .i64 q, .string b]] w fun x w' => x = .returned (.tuple #[]) ∧ RefStep w w' p a r kv hv := by
  have k5 : (k == 5) = false := by simpa using h5
  have k2 : (k == 2) = false := by simpa using h2
  have k4 : (k == 4) = false := by simpa using h4
  have ee : (e != (a.epoch : Int)) = false := by simpa using he
  clear h5 h2 h4 he
  have DD := hide (dlay_new R k e st q b)
  have hpl := lt_of_block R.blk
  generalize hep : (a.epoch : Int) = ep at *
  go_enter Tryz.func174, Tryz.ntmps174
  go_upto_region 1 with fail
  refine wp_world (fun x => DLay w x p a r kv hv k e st q b) (unhide DD) ?_
  clear DD R
  intro x L
  have y0 := blk_cell (i := 0) L.box
  have y1 := blk_cell (i := 1) L.box
  have c0 := blk_cell (i := 0) L.ref.blk
  have c2 := blk_cell (i := 2) L.ref.blk
  have f2 := blk_free (i := 2) L.ref.blk
  have c3 := blk_cell (i := 3) L.ref.blk
  have f3 := blk_free (i := 3) L.ref.blk
  simp [refCells] at y0 y1 c0 c2 c3
  rw [hep] at c0
  have LL := hide L
  clear L hep
  go_quiet (fail)
  go_wp2
  go_quiet (fail)
  go_wp2
  refine bodyPost_end (results_none rfl _ _ _) rfl ?_
  exact ⟨rfl, refStep_of (a' := a) ((unhide LL).drew _).ref (far_below ((unhide LL).drew _).bel)⟩
set_option maxRecDepth 100000 in
set_option maxHeartbeats 2000000 in
theorem refDeliver_ackno {w : World} {p : Nat} {a : Mod.Ag} {r : RRest} {kv hv : Nat → Value} (R : RefAt w p a r kv hv) (k e st q : Int) (b : ByteArray) (hk : k = 4) (he : e = a.epoch) (hw : a.welcome = false) :
    Calls Tryz.prog 174 #[.pointer (some ⟨p, 0, none⟩), .agg #[.int .i64 k, .int .i64 e, .int .i64 st, .int .i64 q, .string b]] w fun x w' => x = .returned (.tuple #[]) ∧ RefStep w w' p a r kv hv := by
  have k5 : (k == 5) = false := by subst hk; rfl
  have k2 : (k == 2) = false := by subst hk; rfl
  have k4 : (k == 4) = true := by subst hk; rfl
  have ee : (e != (a.epoch : Int)) = false := by simpa using he
  clear hk he
  have DD := hide (dlay_new R k e st q b)
  have hpl := lt_of_block R.blk
  generalize hep : (a.epoch : Int) = ep at *
  go_enter Tryz.func174, Tryz.ntmps174
  go_upto_region 1 with fail
  refine wp_world (fun x => DLay w x p a r kv hv k e st q b) (unhide DD) ?_
  clear DD R
  intro x L
  have y0 := blk_cell (i := 0) L.box
  have y1 := blk_cell (i := 1) L.box
  have c0 := blk_cell (i := 0) L.ref.blk
  have c2 := blk_cell (i := 2) L.ref.blk
  have f2 := blk_free (i := 2) L.ref.blk
  have c3 := blk_cell (i := 3) L.ref.blk
  have f3 := blk_free (i := 3) L.ref.blk
  simp [refCells] at y0 y1 c0 c2 c3
  rw [hep] at c0
  rw [hw] at c2
  have LL := hide L
  clear L hep
  clear hw
  go_quiet (fail)
  go_wp2
  go_quiet (fail)
  go_wp2
  refine bodyPost_ret (results_none rfl _ _ _) rfl ?_
  exact ⟨rfl, refStep_of (a' := a) ((unhide LL).drew _).ref (far_below ((unhide LL).drew _).bel)⟩
end Go.Proofs.YtamafdcnbcoegaaGreat
namespace Go.Proofs.YtamafdcnbcoegaaGreat
open Go.RowKit

theorem refCells_held (a : Mod.Ag) (r : RRest) (kv hv : Nat → Value) (s : Nat) (hs : s < 3) (v : Value) (x : List Nat) :
    (refCells a r kv hv).setIfInBounds (5 + s * 3 + 2) v = refCells { a with fl := Mod.upd a.fl s { a.fl s with held := x } } r kv (updV hv s v) := by
  obtain rfl | rfl | rfl : s = 0 ∨ s = 1 ∨ s = 2 := by omega
  all_goals rfl
/-- What is held of a stream has been laid anew, in their block or in a new one, and the agent's block says so. -/
theorem RefAt.heldStep {w w1 : World} {p : Nat} {a : Mod.Ag} {r : RRest} {kv hv : Nat → Value} (R : RefAt w p a r kv hv) (s : Nat) (hs : s < 3) {v' : Value} {x : List Nat} (hf : Far (fun k => (hv s).ownBlock = some k) w w1)
    (hl : ∀ g, v'.ownBlock = some g → (hv s).ownBlock = some g ∨ w.heap.size ≤ g) (hrow : RowO w1 3 1 v' x.length (numCells x)) (hx : x.length ≤ 3) :
    (∃ C, w1.heap[p]? = some (.cells C 124 (0, 0)) ∧ C[5 + s * 3 + 2]? = some (hv s)) ∧
    RefStep w (w1.setCell ⟨p, 5 + s * 3 + 2, none⟩ v') p { a with fl := Mod.upd a.fl s { a.fl s with held := x } } r kv hv := by
  have hpk : (hv s).ownBlock ≠ some p := (R.held s hs).ne R.blk (by decide)
  have hb1 := hf.blk R.blk hpk
  have hkp : ∀ t, t < 3 → (kv t).ownBlock ≠ some p := fun t ht => (R.kept t ht).ne R.blk (by decide)
  have hhp : ∀ t, t < 3 → (hv t).ownBlock ≠ some p := fun t ht => (R.held t ht).ne R.blk (by decide)
  have hnew : ∀ k, k < w.heap.size → v'.ownBlock = some k → (hv s).ownBlock = some k := fun k hk e => (hl k e).elim id (fun h => by omega)
  have hset := far_set w1 p (5 + s * 3 + 2) v'
  have hgo : ∀ t, Mod.upd a.fl s { a.fl s with held := x } t = if t = s then { a.fl s with held := x } else a.fl t := fun t => rfl
  refine ⟨⟨_, hb1, ?_⟩, kv, updV hv s v', ⟨?_, ?_, ?_, R.apk, ?_, R.ep, R.tk, ?_, ?_, ?_⟩, ?_, ?_⟩
  · obtain rfl | rfl | rfl : s = 0 ∨ s = 1 ∨ s = 2 := by omega
    all_goals rfl
  · rw [← refCells_held a r kv hv s hs]
    exact blk_set hb1
  · intro t ht
    have : (Mod.upd a.fl s { a.fl s with held := x } t).kept = (a.fl t).kept := by rw [hgo]; split <;> simp_all
    simp only [this]
    exact ((R.kept t ht).far hf (fun g hg hgs => (R.kept t ht).ty (R.held s hs) (by decide) hg hgs)).far hset (fun g hg hgp => hkp t ht (by rw [hg, hgp]))
  · intro t ht
    by_cases hts : t = s
    · subst hts
      rw [updV_same]
      simp only [Mod.upd_same]
      refine hrow.far hset (fun g hg hgp => ?_)
      rw [hgp] at hg
      exact hpk (hnew p (lt_of_block R.blk) hg)
    · rw [updV_other _ _ hts]
      simp only [Mod.upd_other _ _ hts]
      exact ((R.held t ht).far hf (fun g hg hgs => R.aph t s ht hs hts g hg hgs)).far hset (fun g hg hgp => hhp t ht (by rw [hg, hgp]))
  · intro t u ht hu htu g hg
    by_cases hts : t = s
    · subst hts
      rw [updV_same] at hg
      rw [updV_other _ _ (fun e => htu e.symm)]
      intro hug
      have hlt := (R.held u hu).lt g hug
      exact R.aph t u ht hu htu g (hnew g hlt hg) hug
    · rw [updV_other _ _ hts] at hg
      by_cases hus : u = s
      · subst hus
        rw [updV_same]
        intro hug
        exact R.aph t u ht hu htu g hg (hnew g ((R.held t ht).lt g hg) hug)
      · rw [updV_other _ _ hus]
        exact R.aph t u ht hu htu g hg
  · intro t ht
    have : (Mod.upd a.fl s { a.fl s with held := x } t).base = (a.fl t).base := by rw [hgo]; split <;> simp_all
    simp only [this]
    exact R.bs t ht
  · intro t ht
    have : (Mod.upd a.fl s { a.fl s with held := x } t).kept = (a.fl t).kept := by rw [hgo]; split <;> simp_all
    simp only [this]
    exact R.kl t ht
  · intro t ht
    by_cases hts : t = s
    · subst hts; simp only [Mod.upd_same]; exact hx
    · simp only [Mod.upd_other _ _ hts]; exact R.hl t ht
  · exact (hf.mono (E' := RefU p kv hv) (fun k _ h => .inr ⟨s, hs, .inr h⟩)).trans hset (fun k _ h => .inl h)
  · rintro k (rfl | ⟨t, ht, hk | hk⟩)
    · exact .inl (.inl rfl)
    · exact .inl (.inr ⟨t, ht, .inl hk⟩)
    · by_cases hts : t = s
      · subst hts
        rw [updV_same] at hk
        rcases hl k hk with h | h
        · exact .inl (.inr ⟨t, ht, .inr h⟩)
        · exact .inr h
      · rw [updV_other _ _ hts] at hk
        exact .inl (.inr ⟨t, ht, .inr hk⟩)

theorem recCells_set : ∀ (l : List (ByteArray × Nat)) (i : Nat) (h : i < l.length) (n : Nat), (recCells l).set (i * 2 + 1) (.int .i64 n) = recCells (l.set i (l[i].1, n))
  | x :: l, 0, _, n => rfl
  | x :: l, i + 1, h, n => by
    have := recCells_set l i (by simpa using h) n
    rw [show (i + 1) * 2 + 1 = i * 2 + 1 + 2 by omega]
    simpa [recCells] using this
/-- The tick of a record's last sending is written. -/
theorem RefAt.sentStep {w : World} {p : Nat} {a : Mod.Ag} {r : RRest} {kv hv : Nat → Value} (R : RefAt w p a r kv hv) (s : Nat) (hs : s < 3) {g o cap i : Nat} (hk : kv s = .slice (some ⟨g, o, none⟩) (a.fl s).kept.length cap) (hi : i < (a.fl s).kept.length) (n : Nat) :
    RefAt (w.setCell ⟨g, o + (i * 2 + 1), none⟩ (.int .i64 n)) p { a with fl := Mod.upd a.fl s { a.fl s with kept := (a.fl s).kept.set i ((a.fl s).kept[i].1, n) } } r kv hv ∧ w.frozen? ⟨g, o + (i * 2 + 1), none⟩ = false := by
  have hrow := R.kept s hs
  rw [hk] at hrow
  have hset := far_set w g (o + (i * 2 + 1)) (.int .i64 n)
  have hg : (kv s).ownBlock = some g := by rw [hk]; rfl
  have hgo : ∀ t, Mod.upd a.fl s { a.fl s with kept := (a.fl s).kept.set i ((a.fl s).kept[i].1, n) } t = if t = s then { a.fl s with kept := (a.fl s).kept.set i ((a.fl s).kept[i].1, n) } else a.fl t := fun t => rfl
  refine ⟨⟨?_, ?_, ?_, R.apk, R.aph, R.ep, R.tk, ?_, ?_, ?_⟩, ?_⟩
  · rw [blk_set_ne (fun e => hrow.ne R.blk (by decide) (by rw [← e]; rfl)), R.blk]
    have e0 : ∀ t, (Mod.upd a.fl s { a.fl s with kept := (a.fl s).kept.set i ((a.fl s).kept[i].1, n) } t).base = (a.fl t).base := by intro t; rw [hgo]; split <;> simp_all
    simp only [refCells, e0]
  · intro t ht
    by_cases hts : t = s
    · subst hts
      simp only [Mod.upd_same]
      rw [hk, List.length_set, ← recCells_set _ _ hi]
      exact hrow.set (by omega) _
    · simp only [Mod.upd_other _ _ hts]
      exact (R.kept t ht).far hset (fun g' hg' e => R.apk t s ht hs hts g' hg' (by rw [hg, e]))
  · intro t ht
    have e0 : (Mod.upd a.fl s { a.fl s with kept := (a.fl s).kept.set i ((a.fl s).kept[i].1, n) } t).held = (a.fl t).held := by rw [hgo]; split <;> simp_all
    simp only [e0]
    exact (R.held t ht).far hset (fun g' hg' e => (R.held t ht).ty (R.kept s hs) (by decide) hg' (by rw [hg, e]))
  · intro t ht
    have e0 : (Mod.upd a.fl s { a.fl s with kept := (a.fl s).kept.set i ((a.fl s).kept[i].1, n) } t).base = (a.fl t).base := by rw [hgo]; split <;> simp_all
    simp only [e0]
    exact R.bs t ht
  · intro t ht
    by_cases hts : t = s
    · subst hts; simp only [Mod.upd_same]; rw [List.length_set]; exact R.kl t ht
    · simp only [Mod.upd_other _ _ hts]; exact R.kl t ht
  · intro t ht
    have e0 : (Mod.upd a.fl s { a.fl s with kept := (a.fl s).kept.set i ((a.fl s).kept[i].1, n) } t).held = (a.fl t).held := by rw [hgo]; split <;> simp_all
    simp only [e0]
    exact R.hl t ht
  · obtain ⟨_, h2⟩ := hrow
    rcases h2 with ⟨h2, _⟩ | ⟨g', o', cap', cur, e1, hh, _⟩
    · cases h2
    · injection e1 with e1
      injection e1 with e1
      injection e1 with e1
      subst e1
      exact blk_free hh
end Go.Proofs.YtamafdcnbcoegaaGreat
namespace Go.Proofs.YtamafdcnbcoegaaGreat
open Go.RowKit

theorem says_le (a : Mod.Ag) (k e st q : Int) (b : ByteArray) (s : Nat) : a.says k e st q b s ≤ (a.fl s).kept.length := by
  unfold Mod.Ag.says
  split
  · omega
  · split
    · unfold Mod.Ag.gone; omega
    · split
      · unfold Mod.Ag.gone; omega
      · omega

theorem fresh_zero (f : Nat → Mod.Flow) : Mod.fresh f 0 = f := by funext t; simp [Mod.fresh]
theorem fresh_self (f : Nat → Mod.Flow) (s : Nat) : Mod.fresh f s s = f s := by simp [Mod.fresh]
theorem fresh_succ (f : Nat → Mod.Flow) (s : Nat) : Mod.fresh f (s + 1) = Mod.upd (Mod.fresh f s) s { f s with kept := (f s).kept.map fun r => (r.1, 0), held := [] } := by
  funext t
  unfold Mod.fresh Mod.upd
  by_cases h : t = s
  · subst h; simp
  · by_cases h2 : t < s
    · simp [h, h2, show t < s + 1 by omega]
    · simp [h, h2, show ¬ t < s + 1 by omega]
/-- Of the first records nothing has been sent. -/
def zeroTo (i : Nat) (l : List (ByteArray × Nat)) : List (ByteArray × Nat) := ((l.take i).map fun r => (r.1, 0)) ++ l.drop i
theorem zeroTo_length (i : Nat) (l : List (ByteArray × Nat)) : (zeroTo i l).length = l.length := by simp [zeroTo]; omega
theorem zeroTo_zero (l : List (ByteArray × Nat)) : zeroTo 0 l = l := by simp [zeroTo]
theorem zeroTo_all (l : List (ByteArray × Nat)) : zeroTo l.length l = l.map fun r => (r.1, 0) := by simp [zeroTo]
theorem zeroTo_get {i : Nat} {l : List (ByteArray × Nat)} (h : i < l.length) : (zeroTo i l)[i]'(by rw [zeroTo_length]; exact h) = l[i] := by
  unfold zeroTo
  rw [List.getElem_append_right (by simp; omega)]
  simp
  congr 1
  omega
theorem zeroTo_set {i : Nat} {l : List (ByteArray × Nat)} (h : i < l.length) : (zeroTo i l).set i (l[i].1, 0) = zeroTo (i + 1) l := by
  unfold zeroTo
  rw [List.set_append_right _ _ (by simp; omega), List.take_succ_eq_append_getElem h, List.map_append, List.append_assoc]
  congr 1
  have : i - ((l.take i).map fun r => (r.1, 0)).length = 0 := by simp; omega
  rw [this, List.drop_eq_getElem_cons h]
  rfl

set_option maxRecDepth 100000 in
set_option maxHeartbeats 2000000 in
theorem refDeliver_welcome {w : World} {p : Nat} {a : Mod.Ag} {r : RRest} {kv hv : Nat → Value} (R : RefAt w p a r kv hv) (k e st q : Int) (b : ByteArray) (hk : k = 2) (he : e = a.epoch) (hb : b.size = 12) (hsum : ∀ s, s < 3 → (a.fl s).base + (a.fl s).kept.length ≤ 1000000000000000) :
    Calls Tryz.prog 174 #[.pointer (some ⟨p, 0, none⟩), .agg #[.int .i64 k, .int .i64 e, .int .i64 st, .int .i64 q, .string b]] w fun x w' => x = .returned (.tuple #[]) ∧ RefStep w w' p { a.drop (a.says k e st q b) with welcome := true, fl := Mod.fresh (a.drop (a.says k e st q b)).fl 3 } r kv hv := by
  have k5 : (k == 5) = false := by subst hk; rfl
  have k2 : (k == 2) = true := by subst hk; rfl
  have h2 : Hid (k = 2 → b.size = 12) := fun _ => hb
  have h4 : Hid (k = 4 → 0 ≤ q ∧ q ≤ 2147483647) := fun h => by omega
  have ee : (e != (a.epoch : Int)) = false := by simpa using he
  have HSUM := hide hsum
  clear hk he hb hsum
  have DD := hide (dlay_new R k e st q b)
  have hpl := lt_of_block R.blk
  generalize hep : (a.epoch : Int) = ep at *
  go_enter Tryz.func174, Tryz.ntmps174
  go_upto_region 1 with fail
  refine wp_world (fun x => DLay w x p a r kv hv k e st q b) (unhide DD) ?_
  clear DD R
  intro x L
  have y0 := blk_cell (i := 0) L.box
  have y1 := blk_cell (i := 1) L.box
  have c0 := blk_cell (i := 0) L.ref.blk
  have c2 := blk_cell (i := 2) L.ref.blk
  have f2 := blk_free (i := 2) L.ref.blk
  have c3 := blk_cell (i := 3) L.ref.blk
  have f3 := blk_free (i := 3) L.ref.blk
  simp [refCells] at y0 y1 c0 c2 c3
  rw [hep] at c0
  have LL := hide L
  clear L hep
  go_quiet (fail)
  go_wp2
  go_quiet (fail)
  go_upto_region 8 with fail
  refine wp_world (fun x => DLay w x p a r kv hv k e st q b) (by first | exact ((unhide LL).drew _).drew _ | exact (unhide LL).drew _) ?_
  clear LL y0 y1 c0 c2 f2 c3 f3
  intro x2 L
  have y0 := blk_cell (i := 0) L.box
  have y1 := blk_cell (i := 1) L.box
  have y2 := blk_cell (i := 2) L.box
  have y3 := blk_cell (i := 3) L.box
  have y4 := blk_cell (i := 4) L.box
  simp at y0 y1 y2 y3 y4
  have LL := hide L
  clear L
  have HSY := hide (refSays_any (unhide LL).ref k e st q b (unhide h2) (unhide h4))
  go_upto_region 9 with (first | (go_at_call 173; refine (unhide HSY).mono ?_; rintro y w1 ⟨rfl, hb1⟩; have BB1 := hide hb1; have HDR := hide (refDrop_any ((unhide LL).ref.far (far_below (E := fun _ => False) hb1) (fun _ _ h => h)) (a.says k e st q b) (fun s _ => says_le a k e st q b s) (fun s hs => by have := (unhide HSUM) s hs; have := says_le a k e st q b s; omega)); clear hb1) | (go_at_call 210; refine (unhide HDR).mono ?_; rintro y w2 ⟨rfl, S2⟩))
  obtain ⟨kv2, hv2, R2, F2, U2⟩ := S2
  have FF2 := hide (((far_below (E := RefU p kv hv) (unhide LL).bel).trans (far_below (E := RefU p kv hv) (unhide BB1)) (fun _ _ h => h)).trans F2 (fun _ _ h => h))
  have UU2 : Hid (∀ k, RefU p kv2 hv2 k → RefU p kv hv k ∨ w.heap.size ≤ k) := fun k hk => (U2 k hk).elim .inl (fun h => .inr (by have := (unhide LL).bel.size; have := (unhide BB1).size; omega))
  have c2 := blk_cell (i := 2) R2.blk
  have f2 := blk_free (i := 2) R2.blk
  simp [refCells] at c2
  have RR2 := hide R2
  clear R2 F2 U2 HDR HSY LL BB1 y0 y1 y2 y3 y4
  obtain ⟨a1, hA1⟩ : ∃ a1, a1 = a.drop (a.says k e st q b) := ⟨_, rfl⟩
  rw [← hA1] at RR2 c2
  have HA1 := hide hA1
  clear hA1
  go_wp2
  go_loopw [4] (fun i wr => ∃ (s : Nat) (kv' hv' : Nat → Value), s ≤ 3 ∧ i = .int .i64 s ∧ RefAt wr p { a1 with welcome := true, fl := Mod.fresh a1.fl s } r kv' hv' ∧ Far (RefU p kv hv) w wr ∧ (∀ k, RefU p kv' hv' k → RefU p kv hv k ∨ w.heap.size ≤ k)) (fun i _ => 3 - (intOf i).toNat)
  case atStart =>
    refine ⟨0, kv2, hv2, by omega, rfl, ?_, (unhide FF2).trans (far_set w2 p 2 (.bool true)) (fun k _ h => .inl h), unhide UU2⟩
    rw [fresh_zero]
    exact (unhide RR2).welcome true
  case round =>
    obtain ⟨s, kv3, hv3, hs, rfl, R, hF, hU⟩ := hrel
    have FF := hide hF
    have UU := hide hU
    clear hF hU RR2 FF2 UU2 c2 f2
    by_cases hlt : s < 3
    · obtain ⟨_, _, d2⟩ := ref_at R s hlt
      have e2 := blk_free (i := 5 + s * 3 + 2) R.blk
      have hs3 : (s : Int) < 3 := by omega
      have hst := R.heldStep s hlt (x := []) (Far.refl _ _) (v' := .slice none 0 0) (fun g hg => by cases hg) (rowO_nil _ _ _) (by simp)
      obtain ⟨_, kv4, hv4, R4, F4, U4⟩ := hst
      simp only [fresh_self] at R4
      have RR4 := hide R4
      have FF4 := hide ((unhide FF).trans F4 (fun k hk h => ((unhide UU) k h).elim id (fun h => by omega)))
      have UU4 : Hid (∀ k, RefU p kv4 hv4 k → RefU p kv hv k ∨ w.heap.size ≤ k) := fun k hk => (U4 k hk).elim (fun h => (unhide UU) k h) (fun h => .inr (Nat.le_trans (unhide FF).size h))
      clear R R4 F4 U4 FF UU
      go_upto_region 14 with fail
      refine wp_world (fun x => RefAt x p { a1 with welcome := true, fl := Mod.upd (Mod.fresh a1.fl s) s { a1.fl s with held := [] } } r kv4 hv4 ∧ Far (RefU p kv hv) w x) ⟨unhide RR4, unhide FF4⟩ ?_
      clear RR4 FF4 d2 e2
      rintro x5 ⟨R5, F5⟩
      have RR5 := hide R5
      have FF5 := hide F5
      clear R5 F5
      go_wp2
      go_loopw [5] (fun i wr => ∃ j : Nat, j ≤ (a1.fl s).kept.length ∧ i = .int .i64 j ∧ RefAt wr p { a1 with welcome := true, fl := Mod.upd (Mod.fresh a1.fl s) s { a1.fl s with kept := zeroTo j (a1.fl s).kept, held := [] } } r kv4 hv4 ∧ Far (RefU p kv hv) w wr) (fun i _ => (a1.fl s).kept.length - (intOf i).toNat)
      case atStart => exact ⟨0, Nat.zero_le _, rfl, by rw [zeroTo_zero]; exact unhide RR5, unhide FF5⟩
      case round =>
        obtain ⟨j, hj, rfl, R, hF⟩ := hrel
        obtain ⟨_, d1, _⟩ := ref_at R s hlt
        have hrow := R.kept s hlt
        simp only [Mod.upd_same, zeroTo_length] at hrow
        obtain ⟨ka, kc, hka, hk1, hk2, hk3⟩ := hrow.shape
        have hkl := R.kl s hlt
        simp only [Mod.upd_same, zeroTo_length] at hkl
        rw [hka] at d1
        have FF := hide hF
        clear hF RR5 FF5
        by_cases hltj : j < (a1.fl s).kept.length
        · obtain ⟨g, o, rfl, hc⟩ := hk3 (by omega)
          have hstep := R.sentStep s hlt (g := g) (o := o) (cap := kc) (i := j) (by simp only [Mod.upd_same, zeroTo_length]; exact hka) (by simp only [Mod.upd_same, zeroTo_length]; exact hltj) 0
          obtain ⟨R6, f6⟩ := hstep
          simp only [Mod.upd_same, upd_upd, zeroTo_get hltj, zeroTo_set hltj] at R6
          have y6 := hc (j * 2 + 1) (by omega)
          rw [recCells_sent _ j (by rw [zeroTo_length]; exact hltj)] at y6
          have y7 : wr.cell? ⟨g, o + j * 2 + 1, none⟩ = some (.int .i64 (((zeroTo j (a1.fl s).kept)[j]'(by rw [zeroTo_length]; exact hltj)).2 : Nat)) := y6
          have f7 : wr.frozen? ⟨g, o + j * 2 + 1, none⟩ = false := f6
          have hgu : RefU p kv4 hv4 g := .inr ⟨s, hlt, .inl (by rw [hka]; rfl)⟩
          have HF6 := hide ((unhide FF).trans (far_set wr g (o + (j * 2 + 1)) (.int .i64 0)) (fun k hk e => by rw [e]; exact ((unhide UU4) g hgu).elim id (fun h => by rw [e] at hk; omega)))
          have RR6 := hide R6
          clear R R6 hrow hk3 hc y6 f6 hgu FF hk2
          generalize (((zeroTo j (a1.fl s).kept)[j]'(by rw [zeroTo_length]; exact hltj)).2 : Nat) = old at y7
          go_wp2
          go_roundw
          case rel => exact ⟨j + 1, by omega, by go_num, unhide RR6, unhide HF6⟩
          case measure => simp [intOf]; omega
        · have hjl : j = (a1.fl s).kept.length := by omega
          subst hjl
          rw [zeroTo_all] at R
          rw [← fresh_succ] at R
          have RR6 := hide R
          clear R hrow hk3 hk2 hka
          go_wp2
          go_roundw
          case rel => exact ⟨s + 1, kv4, hv4, by omega, by go_num, unhide RR6, unhide FF, unhide UU4⟩
          case measure => simp [intOf]; omega
    · have hs3 : s = 3 := by omega
      subst hs3
      have RR := hide R
      clear R
      go_wp2
      refine bodyPost_end (results_none rfl _ _ _) rfl ?_
      rw [← unhide HA1]
      exact ⟨rfl, kv3, hv3, unhide RR, unhide FF, unhide UU⟩

end Go.Proofs.YtamafdcnbcoegaaGreat
