/-
  Part 9 of a proof: G1, G2, G3, G4, G5, MonoCut, T2, U1.
-/
import Derived.Test.YtamafdcnbcoegaaGreatSd8
namespace Go.Proofs.YtamafdcnbcoegaaGreat
open Go.RowKit

theorem stable_nb (B : Nat) (l : List UInt8) : Stable (fun v w => NewBytes B w v l) := by
  intro v w w' h hb
  exact h.keep (fun g O hg _ _ => (hb.block g (lt_of_block hg)).trans hg)
/-- The first k places are marked. -/
def mkL (k : Nat) (xs : List Value) (u : Value) : List Value := List.replicate k u ++ xs.drop k
theorem mkL_zero (xs : List Value) (u : Value) : mkL 0 xs u = xs := by simp [mkL]
theorem mkL_all (xs : List Value) (u : Value) : mkL xs.length xs u = List.replicate xs.length u := by simp [mkL]
theorem mkL_set {k : Nat} {xs : List Value} (u : Value) (h : k < xs.length) : (mkL k xs u).set k u = mkL (k + 1) xs u := by
  unfold mkL
  rw [List.set_append_right _ _ (by simp), List.length_replicate, Nat.sub_self, List.drop_eq_getElem_cons h, List.set_cons_zero, List.replicate_succ', List.append_assoc]
  rfl
theorem mkL_get {k : Nat} {xs : List Value} (u : Value) (h : k < xs.length) : (mkL k xs u)[k]? = some xs[k] := by
  unfold mkL
  rw [List.getElem?_append_right (by simp), List.length_replicate, Nat.sub_self, List.getElem?_drop, Nat.add_zero, List.getElem?_eq_getElem h]
/-- A store into a row of the call's own. -/
theorem own_stored {w : World} {e : TypeId} {g n cap i : Nat} {xs : List Value} (h : w.ownsRow 0 e 1 (.slice (some ⟨g, 0, none⟩) n cap) n xs) (u : Value) :
    (w.setCell ⟨g, i, none⟩ u).ownsRow 0 e 1 (.slice (some ⟨g, 0, none⟩) n cap) n (xs.set i u) ∧ Far (fun k => (Value.slice (some ⟨g, 0, none⟩) n cap).ownBlock = some k) w (w.setCell ⟨g, i, none⟩ u) := by
  obtain ⟨h1, h2⟩ := World.ownsRow.stored h i u
  exact ⟨h1, far_grown h2⟩

set_option maxRecDepth 100000 in
set_option maxHeartbeats 4000000 in
theorem marksAll_any (p : Nat) (w : World) (tv bk fv : Value) (ts fs : List Value) (l : List UInt8) (m : Int) (t want : ByteArray)
    (hblk : w.heap[p]? = some (.cells #[tv, bk, fv, .int .i64 m, .string t, .string want] 110 (0, 0)))
    (ht : w.ownsRow 0 9 1 tv ts.length ts) (hbb : w.ownsRow 0 5 1 bk l.length (bv l)) (hff : w.ownsRow 0 44 1 fv fs.length fs)
    (z1 : ts.length ≤ 140737488354000) (z2 : l.length ≤ 140737488354000) (z3 : fs.length ≤ 140737488354000) (z4 : t.size ≤ 3) :
    Calls Tryz.prog 115 #[.pointer (some ⟨p, 0, none⟩)] w fun r w' => r = .returned (.tuple #[]) ∧ ∃ (l2 : List UInt8) (fs2 : List Value), l2.length = l.length ∧ fs2.length = fs.length ∧
      w'.ownsRow 0 9 1 tv ts.length (List.replicate ts.length (.string t)) ∧ w'.ownsRow 0 5 1 bk l.length (bv l2) ∧ w'.ownsRow 0 44 1 fv fs.length fs2 ∧ (∀ f ∈ fs2, NewBytes w.heap.size w' f t.data.toList) ∧
      Far (fun k => tv.ownBlock = some k ∨ bk.ownBlock = some k ∨ fv.ownBlock = some k) w w' := by
  have hpt : tv.ownBlock ≠ some p := own_ne ht hblk (by decide)
  have hpb : bk.ownBlock ≠ some p := own_ne hbb hblk (by decide)
  have hpf : fv.ownBlock ≠ some p := own_ne hff hblk (by decide)
  obtain ⟨ta, tc, htv, ht1, ht2, ht3⟩ := Row.shape (A := fun _ => True) ⟨ht, fun _ _ => trivial⟩
  obtain ⟨nt, hnt⟩ : ∃ nt, nt = ts.length := ⟨_, rfl⟩
  obtain ⟨nf, hnf⟩ : ∃ nf, nf = fs.length := ⟨_, rfl⟩
  rw [← hnt] at htv ht ht1 z1 ⊢
  rw [← hnf] at hff z3 ⊢
  subst htv
  have c0 := blk_cell (i := 0) hblk
  simp at c0
  have hpl := lt_of_block hblk
  have HB := hide hblk
  have HT := hide ht
  have HBB := hide hbb
  have HFF := hide hff
  have HT3 := hide ht3
  have HNT := hide hnt
  have HNF := hide hnf
  have HPT := hide hpt
  have HPB := hide hpb
  have HPF := hide hpf
  have n1 : nt ≤ 9223372036854775807 := by omega
  clear hblk ht hbb hff ht3 hnt hnf hpt hpb hpf c0
  go_enter Tryz.func115, Tryz.ntmps115
  go_wp2
  go_loopw [2] (fun i wr => ∃ k : Nat, k ≤ nt ∧ i = .int .i64 k ∧ wr.ownsRow 0 9 1 (.slice ta nt tc) nt (mkL k ts (.string t)) ∧ Far (fun k => (Value.slice ta nt tc).ownBlock = some k) w wr) (fun i _ => nt - (intOf i).toNat)
  case atStart => exact ⟨0, by omega, rfl, by rw [mkL_zero]; exact unhide HT, Far.refl _ _⟩
  case round =>
    obtain ⟨k, hk, rfl, ho, hF⟩ := hrel
    have hbp := hF.blk (unhide HB) (unhide HPT)
    have c0 := blk_cell (i := 0) hbp
    have c4 := blk_cell (i := 4) hbp
    simp at c0 c4
    have hpl2 := lt_of_block hbp
    have HBP := hide hbp
    clear hbp
    by_cases hlt : k < nt
    · have hlk : k < ts.length := by have := unhide HNT; omega
      obtain ⟨g, rfl, _, _⟩ := (unhide HT3) (by have := unhide HNT; omega)
      have hz0 := World.ownsRow.cellAt ho k (by omega)
      rw [mkL_get _ hlk] at hz0
      have hf0 := World.ownsRow.frozenAt ho k
      have hgl := (World.ownsRow.lt ho g rfl).2
      have HO := hide ho
      have HF := hide hF
      clear ho hF
      generalize ts[k] = old at hz0
      go_wp2
      refine wp_region_last (by kernel_rfl)
        [fun v _ => v = .pointer (some ⟨p, 0, none⟩), fun v _ => v = .pointer (some ⟨p, 0, none⟩), fun v _ => v = .pointer (some ⟨p, 0, none⟩), fun v _ => v = .slice (some ⟨g, 0, none⟩) nt tc, fun v _ => v = .int .i64 k, fun v _ => v = .pointer (some ⟨p, 0, none⟩), fun v _ => v = .pointer (some ⟨p, 0, none⟩), fun v _ => v = .pointer (some ⟨p, 4, none⟩), fun v _ => v = .string t, fun v _ => v = .pointer (some ⟨g, k, none⟩), fun _ _ => True]
        [[(0, none)], [(14, some 0)], [(15, some 1)], [(16, some 2)], [(2, none)], [(0, none)], [(19, some 5)], [(20, some 6)], [(21, some 7)], [(17, some 3), (18, some 4)], [(23, some 9), (22, some 8)]]
        [some 14, some 15, some 16, some 17, some 18, some 19, some 20, some 21, some 22, some 23, none]
        [false, false, false, false, false, false, false, false, false, false, false, false, false, false, true, true, true, true, true, true, true, true, true, true, false, false, false, false, false, false, false, false, false, false, false, false, false, false, false, false, false, false, false, false, false, false, false, false, false, false, false, false, false, false, false, false, false, false, false, false, false, false, false, false, false]
        10 _ rfl rfl (by kernel_rfl) (by kernel_rfl) (by kernel_rfl) (by kernel_rfl) (by kernel_rfl) (by kernel_rfl) ?_ ?_ ?_
      · repeat' (first | exact stable_eq _ | exact stable_nb _ _ | exact stable_true | exact trivial | apply And.intro)
      · refine ⟨?_, ?_, ?_, ?_, ?_, ?_, ?_, ?_, ?_, ?_, trivial⟩
        all_goals
          intro b x hb hf
          have y0 := (hb.cell (p := ⟨p, 0, none⟩) hpl2).trans c0
          have y4 := (hb.cell (p := ⟨p, 4, none⟩) hpl2).trans c4
          have hzx := hb.size
          clear hb
          simp only [PlanFacts, List.getD_cons_zero, List.getD_cons_succ, Array.getD_eq_getD_getElem?] at hf
          try simp at hf
          try go_simp
          try exact Below.refl _ _
        all_goals first
          | exact ⟨rfl, Below.refl _ _⟩

      · intro f5 x5 hb hwd
        simp only [AllWords, List.take] at hwd
        obtain ⟨_, _, _, _, _, _, _, _, hf22, hf23, _⟩ := hwd
        have y0 := (hb.cell (p := ⟨g, k, none⟩) hgl).trans hz0
        have yf := (hb.frozen (p := ⟨g, k, none⟩) hgl).trans hf0
        have HF5 : Far (fun k => (Value.slice (some ⟨g, 0, none⟩) nt tc).ownBlock = some k) wr x5 := far_below hb
        have O5 := ownsRow_keep (w' := x5) (unhide HO) (fun g' hg' => hb.block g' (World.ownsRow.lt (unhide HO) g' hg').2)
        obtain ⟨O6, F6⟩ := own_stored (i := k) O5 (.string t)
        rw [mkL_set _ hlk] at O6
        have HO6 := hide O6
        have HF6 := hide (((unhide HF).trans HF5 (fun _ _ h => h)).trans F6 (fun _ _ h => h))
        clear hb HF5 O5 O6 F6 c0 c4 hz0 hf0
        simp only [mergeT, hf22, hf23]
        go_simp
        go_wp2
        go_roundw
        case rel => exact ⟨k + 1, by omega, by go_num, unhide HO6, unhide HF6⟩
        case measure => simp [intOf]; omega
    · have hkn : nt = k := by omega
      subst hkn
      rw [unhide HNT, mkL_all, ← unhide HNT] at ho
      have HO := hide ho
      have HF := hide hF
      have hbl := hF.own (unhide HBB) (fun g hg e => own_ty (unhide HBB) (unhide HT) (by decide) hg e)
      have HBL := hide hbl
      clear ho hF hbl
      obtain ⟨ba, bc, hbv, hb1, hb2, hb3⟩ := Row.shape (A := fun _ => True) ⟨by have := unhide HBB; rw [← bv_length l] at this; exact this, fun _ _ => trivial⟩
      rw [bv_length] at hbv hb1
      have HB3 := hide hb3
      have HBV := hide hbv
      have n2 : l.length ≤ 9223372036854775807 := by omega
      clear hb3 hbv
      rw [unhide HBV] at HBL HPB HBB
      go_wp2
      go_loopw [3] (fun i wr => ∃ (k : Nat) (l2 : List UInt8), k ≤ l.length ∧ i = .int .i64 k ∧ l2.length = l.length ∧ wr.ownsRow 0 5 1 (.slice ba l.length bc) l.length (bv l2) ∧ wr.ownsRow 0 9 1 (.slice ta nt tc) nt (List.replicate nt (.string t)) ∧ Far (fun k => (Value.slice ta nt tc).ownBlock = some k ∨ (Value.slice ba l.length bc).ownBlock = some k) w wr) (fun i _ => l.length - (intOf i).toNat)
      case atStart => exact ⟨0, l, by omega, rfl, rfl, unhide HBL, unhide HO, (unhide HF).mono (fun _ _ h => .inl h)⟩
      case round =>
        obtain ⟨k, l2, hk, rfl, hl2, ho, hot, hF⟩ := hrel
        clear HBL HO HF HBP
        have hbp := hF.blk (unhide HB) (fun e => e.elim (unhide HPT) (unhide HPB))
        rw [unhide HBV] at hbp
        have c1 := blk_cell (i := 1) hbp
        have c3 := blk_cell (i := 3) hbp
        simp at c1 c3
        have hpl2 := lt_of_block hbp
        have HBP := hide hbp
        have HL2 := hide hl2
        clear hbp hl2
        by_cases hlt : k < l.length
        · obtain ⟨g, rfl, _, _⟩ := (unhide HB3) (by rw [bv_length]; omega)
          have hz0 := World.ownsRow.cellAt ho k (by omega)
          rw [bv_get (by have := unhide HL2; omega)] at hz0
          have hf0 := World.ownsRow.frozenAt ho k
          have hgl := (World.ownsRow.lt ho g rfl).2
          have hgt : Hid (∀ g', (Value.slice ta nt tc).ownBlock = some g' → ¬ (Value.slice (some ⟨g, 0, none⟩) l.length bc).ownBlock = some g') := fun g' hg' e => own_ty hot ho (by decide) hg' e
          have HO := hide ho
          have HOT := hide hot
          have HF := hide hF
          clear ho hF hot
          generalize ((l2.getD k 0).toNat : Int) = old at hz0
          have hsb := signV_range m k
          have hkk : (k : Int) < 9223372036854775808 := by omega
          go_wp2
          refine wp_region_last (by kernel_rfl)
            [fun v _ => v = .pointer (some ⟨p, 0, none⟩), fun v _ => v = .pointer (some ⟨p, 0, none⟩), fun v _ => v = .pointer (some ⟨p, 1, none⟩), fun v _ => v = .slice (some ⟨g, 0, none⟩) l.length bc, fun v _ => v = .int .i64 k, fun v _ => v = .pointer (some ⟨p, 0, none⟩), fun v _ => v = .pointer (some ⟨p, 0, none⟩), fun v _ => v = .pointer (some ⟨p, 3, none⟩), fun v _ => v = .int .i64 m, fun v _ => v = .int .i64 k, fun v _ => v = .int .u8 (signV m k), fun v _ => v = .pointer (some ⟨g, k, none⟩), fun _ _ => True]
            [[(0, none)], [(33, some 0)], [(34, some 1)], [(35, some 2)], [(3, none)], [(0, none)], [(38, some 5)], [(39, some 6)], [(40, some 7)], [(3, none)], [(41, some 8), (42, some 9)], [(36, some 3), (37, some 4)], [(44, some 11), (43, some 10)]]
            [some 33, some 34, some 35, some 36, some 37, some 38, some 39, some 40, some 41, some 42, some 43, some 44, none]
            [false, false, false, false, false, false, false, false, false, false, false, false, false, false, false, false, false, false, false, false, false, false, false, false, false, false, false, false, false, false, false, false, false, true, true, true, true, true, true, true, true, true, true, true, true, false, false, false, false, false, false, false, false, false, false, false, false, false, false, false, false, false, false, false, false]
            12 _ rfl rfl (by kernel_rfl) (by kernel_rfl) (by kernel_rfl) (by kernel_rfl) (by kernel_rfl) (by kernel_rfl) ?_ ?_ ?_
          · repeat' (first | exact stable_eq _ | exact stable_nb _ _ | exact stable_true | exact trivial | apply And.intro)
          · refine ⟨?_, ?_, ?_, ?_, ?_, ?_, ?_, ?_, ?_, ?_, ?_, ?_, trivial⟩
            all_goals
              intro b x hb hf
              have y1 := (hb.cell (p := ⟨p, 1, none⟩) hpl2).trans c1
              have y3 := (hb.cell (p := ⟨p, 3, none⟩) hpl2).trans c3
              have hzx := hb.size
              clear hb
              simp only [PlanFacts, List.getD_cons_zero, List.getD_cons_succ, Array.getD_eq_getD_getElem?] at hf
              try simp at hf
              try go_simp
              try exact Below.refl _ _
            all_goals first
              | exact ⟨rfl, Below.refl _ _⟩
              | (refine (sign_any _ _ _).mono ?_; rintro r w1 ⟨rfl, rfl⟩; exact ⟨rfl, Below.refl _ _⟩)
          · intro f5 x5 hb hwd
            simp only [AllWords, List.take] at hwd
            obtain ⟨_, _, _, _, _, _, _, _, _, _, hf43, hf44, _⟩ := hwd
            have y0 := (hb.cell (p := ⟨g, k, none⟩) hgl).trans hz0
            have yf := (hb.frozen (p := ⟨g, k, none⟩) hgl).trans hf0
            have HF5 : Far (fun _ => False) wr x5 := far_below hb
            have O5 := ownsRow_keep (w' := x5) (unhide HO) (fun g' hg' => hb.block g' (World.ownsRow.lt (unhide HO) g' hg').2)
            have T5 := ownsRow_keep (w' := x5) (unhide HOT) (fun g' hg' => hb.block g' (World.ownsRow.lt (unhide HOT) g' hg').2)
            obtain ⟨O6, F6⟩ := own_stored (i := k) O5 (.int .u8 (signV m k))
            rw [← bv_set _ _ _ hsb.1 hsb.2] at O6
            have T6 := F6.own T5 (fun g' hg' => (unhide hgt) g' hg')
            have HO6 := hide O6
            have HT6 := hide T6
            have HF6 := hide (((unhide HF).trans HF5 (fun _ _ h => h.elim)).trans F6 (fun _ _ h => .inr h))
            clear hb HF5 O5 T5 O6 T6 F6 c1 c3 hz0 hf0
            simp only [mergeT, hf43, hf44]
            go_simp
            go_wp2
            go_roundw
            case rel => exact ⟨k + 1, _, by omega, by go_num, by have := unhide HL2; simp; omega, unhide HO6, unhide HT6, unhide HF6⟩
            case measure => simp [intOf]; omega
        · have HO := hide ho
          have HOT := hide hot
          have HF := hide hF
          have hfl := hF.own (unhide HFF) (fun g hg e => e.elim (fun e => own_ty (unhide HFF) (unhide HT) (by decide) hg e) (fun e => own_ty (unhide HFF) (unhide HBB) (by decide) hg e))
          have HFL := hide hfl
          clear ho hF hot hfl
          obtain ⟨fa, fc, hfv, hf1, hf2, hf3⟩ := Row.shape (A := fun _ => True) (show Row (fun _ => True) w 44 fv fs from ⟨by have := unhide HFF; rw [unhide HNF] at this; exact this, fun _ _ => trivial⟩)
          rw [← unhide HNF] at hfv hf1 hf3
          have HF3 := hide hf3
          have HFV := hide hfv
          have n3 : nf ≤ 9223372036854775807 := by omega
          clear hf3 hfv
          rw [unhide HFV] at HFL HPF HFF
          go_wp2
          go_loopw [4] (fun i wr => ∃ (k : Nat) (fs2 : List Value), k ≤ nf ∧ i = .int .i64 k ∧ fs2.length = nf ∧ (∀ j (hj : j < fs2.length), j < k → NewBytes w.heap.size wr fs2[j] t.data.toList) ∧ wr.ownsRow 0 44 1 (.slice fa nf fc) nf fs2 ∧ (∃ l2 : List UInt8, l2.length = l.length ∧ wr.ownsRow 0 5 1 (.slice ba l.length bc) l.length (bv l2)) ∧ wr.ownsRow 0 9 1 (.slice ta nt tc) nt (List.replicate nt (.string t)) ∧ Far (fun k => (Value.slice ta nt tc).ownBlock = some k ∨ (Value.slice ba l.length bc).ownBlock = some k ∨ (Value.slice fa nf fc).ownBlock = some k) w wr) (fun i _ => nf - (intOf i).toNat)
          case atStart => exact ⟨0, fs, by omega, rfl, (unhide HNF).symm, fun j hj h => absurd h (by omega), unhide HFL, ⟨l2, unhide HL2, unhide HO⟩, unhide HOT, (unhide HF).mono (fun _ _ h => h.elim .inl (fun h => .inr (.inl h)))⟩
          case round =>
            obtain ⟨k, fs2, hk, rfl, hfs2, hnb, ho, hob, hot, hF⟩ := hrel
            clear HFL HO HOT HF HBP
            have hbp := hF.blk (unhide HB) (fun e => e.elim (unhide HPT) (fun e => e.elim (unhide HPB) (unhide HPF)))
            rw [unhide HFV] at hbp
            have c2 := blk_cell (i := 2) hbp
            have c4 := blk_cell (i := 4) hbp
            simp at c2 c4
            have hpl2 := lt_of_block hbp
            have HFS := hide hfs2
            have HNB := hide hnb
            clear hbp hfs2 hnb
            by_cases hlt : k < nf
            · obtain ⟨g, rfl, _, _⟩ := (unhide HF3) (by omega)
              have hlk : k < fs2.length := by have := unhide HFS; omega
              have hz0 := World.ownsRow.cellAt ho k (by omega)
              rw [List.getElem?_eq_getElem hlk] at hz0
              have hf0 := World.ownsRow.frozenAt ho k
              have hgl := (World.ownsRow.lt ho g rfl).2
              have hgw : Hid (g < w.heap.size) := (World.ownsRow.lt (unhide HFF) g rfl).2
              have HO := hide ho
              have HOB := hide hob
              have HOT := hide hot
              have HF := hide hF
              clear ho hF hot hob
              generalize fs2[k] = old at hz0
              go_wp2
              refine wp_region_last (by kernel_rfl)
                [fun v _ => v = .pointer (some ⟨p, 0, none⟩), fun v _ => v = .pointer (some ⟨p, 0, none⟩), fun v _ => v = .pointer (some ⟨p, 2, none⟩), fun v _ => v = .slice (some ⟨g, 0, none⟩) nf fc, fun v _ => v = .int .i64 k, fun v _ => v = .pointer (some ⟨p, 0, none⟩), fun v _ => v = .pointer (some ⟨p, 0, none⟩), fun v _ => v = .pointer (some ⟨p, 4, none⟩), fun v _ => v = .string t, fun v x => NewBytes wr.heap.size x v t.data.toList, fun v _ => v = .pointer (some ⟨g, k, none⟩), fun _ _ => True]
                [[(0, none)], [(54, some 0)], [(55, some 1)], [(56, some 2)], [(4, none)], [(0, none)], [(59, some 5)], [(60, some 6)], [(61, some 7)], [(62, some 8)], [(57, some 3), (58, some 4)], [(64, some 10), (63, some 9)]]
                [some 54, some 55, some 56, some 57, some 58, some 59, some 60, some 61, some 62, some 63, some 64, none]
                [false, false, false, false, false, false, false, false, false, false, false, false, false, false, false, false, false, false, false, false, false, false, false, false, false, false, false, false, false, false, false, false, false, false, false, false, false, false, false, false, false, false, false, false, false, false, false, false, false, false, false, false, false, false, true, true, true, true, true, true, true, true, true, true, true]
                11 _ rfl rfl (by kernel_rfl) (by kernel_rfl) (by kernel_rfl) (by kernel_rfl) (by kernel_rfl) (by kernel_rfl) ?_ ?_ ?_
              · repeat' (first | exact stable_eq _ | exact stable_nb _ _ | exact stable_true | exact trivial | apply And.intro)
              · refine ⟨?_, ?_, ?_, ?_, ?_, ?_, ?_, ?_, ?_, ?_, ?_, trivial⟩
                all_goals
                  intro b x hb hf
                  have y2 := (hb.cell (p := ⟨p, 2, none⟩) hpl2).trans c2
                  have y4 := (hb.cell (p := ⟨p, 4, none⟩) hpl2).trans c4
                  obtain ⟨g9, c9, x9, hr9, hnb9, hb9⟩ := conv_new_bytes x t (by omega)
                  have hzx := hb.size
                  clear hb
                  simp only [PlanFacts, List.getD_cons_zero, List.getD_cons_succ, Array.getD_eq_getD_getElem?] at hf
                  try simp at hf
                  try go_simp
                  try exact Below.refl _ _
                all_goals first
                  | exact ⟨rfl, Below.refl _ _⟩
                  | exact ⟨_, rfl, hnb9.mono hzx⟩
                  | exact ⟨⟨_, rfl, hnb9.mono hzx⟩, hb9⟩
                  | exact hb9
              · intro f5 x5 hb hwd
                simp only [AllWords, List.take] at hwd
                obtain ⟨_, _, _, _, _, _, _, _, _, hf63, hf64, _⟩ := hwd
                obtain ⟨g6, c6, C6, fr6, hv6, _⟩ := id hf63
                have y0 := (hb.cell (p := ⟨g, k, none⟩) hgl).trans hz0
                have yf := (hb.frozen (p := ⟨g, k, none⟩) hgl).trans hf0
                have HF5 : Far (fun _ => False) wr x5 := far_below hb
                have O5 := ownsRow_keep (w' := x5) (unhide HO) (fun g' hg' => hb.block g' (World.ownsRow.lt (unhide HO) g' hg').2)
                have T5 := ownsRow_keep (w' := x5) (unhide HOT) (fun g' hg' => hb.block g' (World.ownsRow.lt (unhide HOT) g' hg').2)
                obtain ⟨l9, hl9, B9⟩ := unhide HOB
                have B5 := ownsRow_keep (w' := x5) B9 (fun g' hg' => hb.block g' (World.ownsRow.lt B9 g' hg').2)
                obtain ⟨O6, F6⟩ := own_stored (i := k) O5 (f5 63)
                have T6 := F6.own T5 (fun g' hg' e => own_ty T5 O5 (by decide) hg' e)
                have B6 := F6.own B5 (fun g' hg' e => own_ty B5 O5 (by decide) hg' e)
                have hws := (unhide HF).size
                have NB6 : Hid (∀ j (hj : j < (fs2.set k (f5 63)).length), j < k + 1 → NewBytes w.heap.size (x5.setCell ⟨g, k, none⟩ (f5 63)) (fs2.set k (f5 63))[j] t.data.toList) := by
                  intro j hj hjk
                  have hset : ∀ g' O, x5.heap[g']? = some O → w.heap.size ≤ g' → (∃ C fr, O = .cells C 5 fr) → (x5.setCell ⟨g, k, none⟩ (f5 63)).heap[g']? = some O := fun g' O h1 h2 _ => (blk_set_ne (by have := unhide hgw; omega)).trans h1
                  by_cases hjk2 : j = k
                  · subst hjk2
                    rw [List.getElem_set_self]
                    exact (hf63.mono hws).keep hset
                  · rw [List.getElem_set_ne (by omega)]
                    exact (((unhide HNB) j (by simpa using hj) (by omega)).keep (fun g' O h1 _ _ => (hb.block g' (lt_of_block h1)).trans h1)).keep hset
                have HO6 := hide O6
                have HT6 := hide T6
                have HB6 := hide B6
                have HL9 := hide hl9
                have HF6 := hide (((unhide HF).trans HF5 (fun _ _ h => h.elim)).trans F6 (fun _ _ h => .inr (.inr h)))
                rw [hv6] at HO6 HT6 HB6 HF6 NB6 hf63
                clear hb HF5 O5 T5 B9 B5 O6 T6 B6 F6 c2 c4 hz0 hf0 hl9
                simp only [mergeT, hv6, hf64]
                go_simp
                go_wp2
                go_roundw
                case rel => exact ⟨k + 1, _, by omega, by go_num, by have := unhide HFS; rw [List.length_set]; exact this, unhide NB6, unhide HO6, ⟨l9, unhide HL9, unhide HB6⟩, unhide HT6, unhide HF6⟩
                case measure => simp [intOf]; omega
            · have hkn : nf = k := by omega
              subst hkn
              have HO := hide ho
              have HOB := hide hob
              have HOT := hide hot
              have HF := hide hF
              clear ho hF hot hob
              go_wp2
              refine bodyPost_end (results_none rfl _ _ _) rfl ?_
              obtain ⟨l9, hl9, B9⟩ := unhide HOB
              rw [unhide HBV, unhide HFV]
              refine ⟨rfl, l9, fs2, hl9, unhide HFS, unhide HOT, B9, unhide HO, fun f hf => ?_, unhide HF⟩
              obtain ⟨j, hj, rfl⟩ := List.mem_iff_getElem.1 hf
              exact (unhide HNB) j hj (by have := unhide HFS; omega)
end Go.Proofs.YtamafdcnbcoegaaGreat
namespace Go.Proofs.YtamafdcnbcoegaaGreat
open Go.RowKit

/-- What stands at the head of keep's loop, of any hold: k texts. -/
structure TurnG (Ok : Nat → Nat → Prop) (E : Nat → Prop) (w x : World) (wb pk : Nat) (as_ ss hv0 t0 b0 f0 hv tv bk fv : Value) (hs : List Nat) (m : Int) (t : ByteArray) (l : List UInt8) (fs : List Value) (k : Nat) : Prop where
  wbk : x.heap[wb]? = some (.cells #[as_, ss, hv] 83 (0, 0))
  row : x.ownsRow 0 108 1 hv hs.length (hs.map ptrTo)
  pb : x.heap[pk]? = some (.cells #[tv, bk, fv, .int .i64 m, .string t, .string ⟨l.toArray⟩] 110 (0, 0))
  rt : x.ownsRow 0 9 1 tv k (List.replicate k (.string t))
  rb : x.ownsRow 0 5 1 bk l.length (bv l)
  rf : x.ownsRow 0 44 1 fv fs.length fs
  holds : ∀ q ∈ hs, HoldAt (fun b o => Calm x.heap.size (Us wb hv) tv k bk l.length fv fs.length b o ∧ Ok b o) x q
  frames : ∀ f ∈ fs, BAt (fun b o => Calm x.heap.size (Us wb hv) tv k bk l.length fv fs.length b o ∧ Ok b o) x f t.data.toList
  far : Far E w x
  lh : Loc w hv0 hv
  lt : Loc w t0 tv
  lb : Loc w b0 bk
  lf : Loc w f0 fv

/-- The new hold reads as its owner wrote it, in cells of any kind that fits. -/
theorem Mid.hold2 {w X : World} {p q : Nat} {cp : Array Value} {tv bv' fv tv2 bv2 fv2 : Value} {ts fs fs2 : List Value} {l l2 : List UInt8} {m : Int} {t : ByteArray} {nt : Nat}
    (M : Mid w X p q cp #[tv2, bv2, fv2, .int .i64 m, .string t, .string ⟨l2.toArray⟩] tv ts bv' l fv fs tv2 (List.replicate nt (.string t)) bv2 l2 fv2 fs2) (Q : Nat → Nat → Prop) (hq : ∀ i, Q q i)
    (h1 : ∀ g, tv2.ownBlock = some g → ∀ i, i < nt → Q g i) (h2 : ∀ g, bv2.ownBlock = some g → ∀ i, i < l2.length → Q g i) (h3 : ∀ g, fv2.ownBlock = some g → ∀ i, i < fs2.length → Q g i) (hfs : ∀ f ∈ fs2, BAt Q X f t.data.toList) : HoldAt Q X q :=
  ⟨tv2, bv2, fv2, nt, l2, fs2, m, t, fun i _ => hq i, fun i _ => blk_cell M.qb, rd_of_row M.t2 fun g hg i hi => h1 g hg i (by simpa using hi), bat_of_row M.b2 h2, rd_of_row M.f2 h3, hfs⟩
theorem nb_bat {B : Nat} {X : World} {v : Value} {l : List UInt8} (Q : Nat → Nat → Prop) (h : NewBytes B X v l) (hQ : ∀ g C fr, B ≤ g → X.heap[g]? = some (.cells C 5 fr) → ∀ i, Q g i) : BAt Q X v l := by
  obtain ⟨g, cap, C, fr, rfl, h1, h2, h3, h4, h5⟩ := h
  refine ⟨_, cap, rfl, h2, h3, fun _ => ⟨g, 0, rfl, fun i _ => hQ g C fr h1 h4 _, fun i hi => ?_⟩⟩
  rw [Nat.zero_add, blk_cell h4]
  exact h5 i hi

set_option maxRecDepth 10000 in
theorem TurnG.next {Ok : Nat → Nat → Prop} {E : Nat → Prop} {w x X Z : World} {wb pk q : Nat} {as_ ss hv0 t0 b0 f0 hv hv3 tv bk fv tv2 bk2 fv2 v6 : Value} {hs : List Nat} {m : Int} {t : ByteArray} {l : List UInt8} {b : UInt8} {fs : List Value} {k : Nat}
    (T : TurnG Ok E w x wb pk as_ ss hv0 t0 b0 f0 hv tv bk fv hs m t l fs k)
    (M : Mid x X pk q #[tv, bk, fv, .int .i64 m, .string t, .string ⟨l.toArray⟩] #[tv2, bk2, fv2, .int .i64 m, .string t, .string ⟨(l ++ [b]).toArray⟩] tv (List.replicate k (.string t)) bk l fv fs tv2 (List.replicate k (.string t) ++ [.string t]) bk2 (l ++ [b]) fv2 (fs ++ [v6]))
    (N : ∃ B, x.heap.size ≤ B ∧ (∀ g, bk2.ownBlock = some g → g < B) ∧ NewBytes B X v6 t.data.toList)
    (A : X.heap[wb]? = some (.cells #[as_, ss, hv] 83 (0, 0)) → X.ownsRow 0 108 1 hv (hs.map ptrTo).length (hs.map ptrTo) → Add X Z wb as_ ss hv hv3 (hs.map ptrTo ++ [ptrTo q]))
    (hE : ∀ k, k < w.heap.size → (Us wb hv0 k ∨ t0.ownBlock = some k ∨ b0.ownBlock = some k ∨ f0.ownBlock = some k) → E k)
    (hOk : ∀ b o, (w.heap.size ≤ b ∨ t0.ownBlock = some b ∨ b0.ownBlock = some b ∨ f0.ownBlock = some b) → Ok b o) : TurnG Ok E w Z wb q as_ ss hv0 t0 b0 f0 hv3 tv2 bk2 fv2 (hs ++ [q]) m t (l ++ [b]) (fs ++ [v6]) (k + 1) := by
  have hT : x.ownsRow 0 9 1 tv (List.replicate k (Value.string t)).length (List.replicate k (Value.string t)) := by rw [List.length_replicate]; exact T.rt
  have hB : x.ownsRow 0 5 1 bk (bv l).length (bv l) := by rw [bv_length]; exact T.rb
  have M' := M
  rw [replicate_snoc] at M'
  have hwt : tv.ownBlock ≠ some wb := own_ne T.rt T.wbk (by decide)
  have hwb : bk.ownBlock ≠ some wb := own_ne T.rb T.wbk (by decide)
  have hwf : fv.ownBlock ≠ some wb := own_ne T.rf T.wbk (by decide)
  have hht : ∀ g, hv.ownBlock = some g → tv.ownBlock ≠ some g := fun g hg => own_ty T.row T.rt (by decide) hg
  have hhb : ∀ g, hv.ownBlock = some g → bk.ownBlock ≠ some g := fun g hg => own_ty T.row T.rb (by decide) hg
  have hhf : ∀ g, hv.ownBlock = some g → fv.ownBlock ≠ some g := fun g hg => own_ty T.row T.rf (by decide) hg
  have hXw := (M.rest wb (lt_of_block T.wbk) hwt hwb hwf).trans T.wbk
  have hXr : X.ownsRow 0 108 1 hv hs.length (hs.map ptrTo) := ownsRow_keep T.row (fun g hg => M.rest g (World.ownsRow.lt T.row g hg).2 (hht g hg) (hhb g hg) (hhf g hg))
  have A' := A hXw (by rw [List.length_map]; exact hXr)
  have hU : ∀ g, Us wb hv g → g < x.heap.size := fun g hg => hg.elim (fun e => e ▸ lt_of_block T.wbk) (fun e => (World.ownsRow.lt T.row g e).2)
  have u1 : ∀ g, Us wb hv g → tv.ownBlock ≠ some g := fun g hg => hg.elim (fun e => e ▸ hwt) (hht g)
  have u2 : ∀ g, Us wb hv g → bk.ownBlock ≠ some g := fun g hg => hg.elim (fun e => e ▸ hwb) (hhb g)
  have u3 : ∀ g, Us wb hv g → fv.ownBlock ≠ some g := fun g hg => hg.elim (fun e => e ▸ hwf) (hhf g)
  -- from x to X
  have calm1 := M.calm (Us wb hv) hT hB T.rf
  have more1 := M.more (Us wb hv) (by simp) (by simp) (by simp)
  simp only [List.length_append, List.length_replicate, List.length_cons, List.length_nil, Nat.zero_add] at calm1 more1
  have calm1' : ∀ b o, (Calm x.heap.size (Us wb hv) tv k bk l.length fv fs.length b o ∧ Ok b o) → X.cell? ⟨b, o, none⟩ = x.cell? ⟨b, o, none⟩ := fun b o h => calm1 b o h.1
  have more1' : ∀ b o, (Calm x.heap.size (Us wb hv) tv k bk l.length fv fs.length b o ∧ Ok b o) → (Calm X.heap.size (Us wb hv) tv2 (k + 1) bk2 (l.length + 1) fv2 (fs.length + 1) b o ∧ Ok b o) := fun b o h => ⟨more1 b o h.1, h.2⟩
  have okx : ∀ b o, x.heap.size ≤ b → Ok b o := fun b o h => hOk b o (.inl (Nat.le_trans T.far.size h))
  have okl : ∀ {u0 u u2 : Value}, Loc w u0 u → Loc x u u2 → (∀ b, u0.ownBlock = some b → ∀ o, Ok b o) → ∀ b, u2.ownBlock = some b → ∀ o, Ok b o := by
    intro u0 u u2 h1 h2 h0 b hb o
    rcases loc_trans h1 h2 T.far.size with h | h | ⟨g, h, hg⟩
    · rw [h] at hb; cases hb
    · exact h0 b (h ▸ hb) o
    · rw [h] at hb; injection hb with hb; exact hOk b o (.inl (by omega))
  have holds1 : ∀ p ∈ hs, HoldAt (fun b o => Calm X.heap.size (Us wb hv) tv2 (k + 1) bk2 (l.length + 1) fv2 (fs.length + 1) b o ∧ Ok b o) X p := fun p hp => ((T.holds p hp).keep calm1').mono more1'
  have hqU : ¬ Us wb hv q := fun e => by have := hU q e; have := M.qnew; omega
  have frames1 : ∀ f ∈ fs ++ [v6], BAt (fun b o => Calm X.heap.size (Us wb hv) tv2 (k + 1) bk2 (l.length + 1) fv2 (fs.length + 1) b o ∧ Ok b o) X f t.data.toList := by
    intro f hf
    rcases List.mem_append.1 hf with hf | hf
    · exact ((T.frames f hf).keep calm1').mono more1'
    · rw [List.mem_singleton] at hf
      subst hf
      obtain ⟨B, hB1, hB2, hN⟩ := N
      exact nb_bat _ hN (fun g C fr hg hb i => ⟨⟨lt_of_block hb, fun hu => by have := hU g hu; omega, fun e => absurd e (own_ne M.t2 hb (by decide)), fun e => by have := hB2 g e; omega, fun e => absurd e (own_ne M.f2 hb (by decide))⟩, okx g i (by omega)⟩)
  have holdq : HoldAt (fun b o => Calm X.heap.size (Us wb hv) tv2 (k + 1) bk2 (l.length + 1) fv2 (fs.length + 1) b o ∧ Ok b o) X q := by
    refine Mid.hold2 M' _ (fun i => ⟨⟨lt_of_block M.qb, hqU, fun e => absurd e (own_ne M.t2 M.qb (by decide)), fun e => absurd e (own_ne M.b2 M.qb (by decide)), fun e => absurd e (own_ne M.f2 M.qb (by decide))⟩, okx q i M.qnew⟩) ?_ ?_ ?_ (by simpa using frames1)
    · intro g hg i hi
      exact ⟨⟨(World.ownsRow.lt M.t2 g hg).2, fun hu => loc_out M.lt hU u1 g hu hg, fun _ => hi, fun e => absurd e (own_ty M.t2 M.b2 (by decide) hg), fun e => absurd e (own_ty M.t2 M.f2 (by decide) hg)⟩, okl T.lt M.lt (fun b hb o => hOk b o (.inr (.inl hb))) g hg i⟩
    · intro g hg i hi
      exact ⟨⟨(World.ownsRow.lt M.b2 g hg).2, fun hu => loc_out M.lb hU u2 g hu hg, fun e => absurd e (own_ty M.b2 M.t2 (by decide) hg), fun _ => by simpa using hi, fun e => absurd e (own_ty M.b2 M.f2 (by decide) hg)⟩, okl T.lb M.lb (fun b hb o => hOk b o (.inr (.inr (.inl hb)))) g hg i⟩
    · intro g hg i hi
      exact ⟨⟨(World.ownsRow.lt M.f2 g hg).2, fun hu => loc_out M.lf hU u3 g hu hg, fun e => absurd e (own_ty M.f2 M.t2 (by decide) hg), fun e => absurd e (own_ty M.f2 M.b2 (by decide) hg), fun _ => by simpa using hi⟩, okl T.lf M.lf (fun b hb o => hOk b o (.inr (.inr (.inr hb)))) g hg i⟩
  have hq := M.qnew
  have hqne : ¬ Us wb hv q := fun e => by have := hU q e; omega
  have hX2 : ∀ {e : TypeId} {v : Value} {n : Nat} {xs : List Value}, X.ownsRow 0 e 1 v n xs → e ≠ 108 → e ≠ 83 → Z.ownsRow 0 e 1 v n xs := by
    intro e v n xs hv1 e1 e2
    refine A'.far.own hv1 (fun g hg hu => ?_)
    rcases hu with rfl | hu
    · exact own_ne hv1 hXw e2 hg
    · exact own_ty hv1 hXr e1 hg hu
  refine ⟨A'.blk, ?_, A'.far.blk M.qb hqne, ?_, ?_, hX2 M.f2 (by decide) (by decide), ?_, ?_, ?_, ?_, ?_, ?_, ?_⟩
  · have := A'.row
    simpa using this
  · have := hX2 M'.t2 (by decide) (by decide)
    simpa using this
  · have := hX2 M.b2 (by decide) (by decide)
    rw [bv_length] at this
    exact this
  · intro p hp
    have hp1 : HoldAt (fun b o => Calm X.heap.size (Us wb hv) tv2 (k + 1) bk2 (l.length + 1) fv2 (fs.length + 1) b o ∧ Ok b o) X p := by
      rcases List.mem_append.1 hp with hp | hp
      · exact holds1 p hp
      · rw [List.mem_singleton] at hp
        exact hp ▸ holdq
    have := (hp1.keep (fun b o h => calm_kept A'.far b o h.1)).mono (fun b o h => (⟨calm_add A'.far.size A'.loc b o h.1, h.2⟩ : Calm Z.heap.size (Us wb hv3) tv2 (k + 1) bk2 (l.length + 1) fv2 (fs.length + 1) b o ∧ Ok b o))
    simpa using this
  · intro f hf
    have := ((frames1 f hf).keep (fun b o h => calm_kept A'.far b o h.1)).mono (fun b o h => (⟨calm_add A'.far.size A'.loc b o h.1, h.2⟩ : Calm Z.heap.size (Us wb hv3) tv2 (k + 1) bk2 (l.length + 1) fv2 (fs.length + 1) b o ∧ Ok b o))
    simpa using this
  · have hxX : Far E w X := by
      refine T.far.trans (E' := fun g => tv.ownBlock = some g ∨ bk.ownBlock = some g ∨ fv.ownBlock = some g) ⟨M.os, M.tape, M.output, M.size, fun g hg he => M.rest g hg (fun e => he (.inl e)) (fun e => he (.inr (.inl e))) (fun e => he (.inr (.inr e)))⟩ ?_
      intro g hg he
      rcases he with he | he | he
      · rcases T.lt with h | h | ⟨g', h, hg'⟩
        · rw [h] at he; cases he
        · exact hE g hg (.inr (.inl (h ▸ he)))
        · rw [h] at he; injection he with he; omega
      · rcases T.lb with h | h | ⟨g', h, hg'⟩
        · rw [h] at he; cases he
        · exact hE g hg (.inr (.inr (.inl (h ▸ he))))
        · rw [h] at he; injection he with he; omega
      · rcases T.lf with h | h | ⟨g', h, hg'⟩
        · rw [h] at he; cases he
        · exact hE g hg (.inr (.inr (.inr (h ▸ he))))
        · rw [h] at he; injection he with he; omega
    refine hxX.trans A'.far ?_
    intro g hg he
    rcases he with he | he
    · exact hE g hg (.inl (.inl he))
    · rcases T.lh with h | h | ⟨g', h, hg'⟩
      · rw [h] at he; cases he
      · exact hE g hg (.inl (.inr (h ▸ he)))
      · rw [h] at he; injection he with he; omega
  · exact loc_trans T.lh A'.loc (Nat.le_trans T.far.size M.size)
  · exact loc_trans T.lt M.lt T.far.size
  · exact loc_trans T.lb M.lb T.far.size
  · exact loc_trans T.lf M.lf T.far.size

/-- The world's own things behind longer. -/
theorem TurnG.mid {Ok : Nat → Nat → Prop} {E : Nat → Prop} {w x X : World} {wb pk q : Nat} {as_ ss hv0 t0 b0 f0 hv tv bk fv tv2 bk2 fv2 : Value} {hs : List Nat} {m : Int} {t : ByteArray} {l l2 : List UInt8} {ts2 fs fs2 : List Value} {k : Nat} {cp cq : Array Value}
    (T : TurnG Ok E w x wb pk as_ ss hv0 t0 b0 f0 hv tv bk fv hs m t l fs k) (M : Mid x X pk q cp cq tv (List.replicate k (.string t)) bk l fv fs tv2 ts2 bk2 l2 fv2 fs2) :
    X.heap[wb]? = some (.cells #[as_, ss, hv] 83 (0, 0)) ∧ X.ownsRow 0 108 1 hv (hs.map ptrTo).length (hs.map ptrTo) := by
  refine ⟨(M.rest wb (lt_of_block T.wbk) (own_ne T.rt T.wbk (by decide)) (own_ne T.rb T.wbk (by decide)) (own_ne T.rf T.wbk (by decide))).trans T.wbk, ?_⟩
  rw [List.length_map]
  exact ownsRow_keep T.row (fun g hg => M.rest g (World.ownsRow.lt T.row g hg).2 (own_ty T.row T.rt (by decide) hg) (own_ty T.row T.rb (by decide) hg) (own_ty T.row T.rf (by decide) hg))

/-- Ahead of the first append: the hold's own block and its lists alone have been written. -/
structure FrontG (w x : World) (p wb : Nat) (cp : Array Value) (as_ ss hv : Value) (hs : List Nat) (tv : Value) (ts : List Value) (bk : Value) (l : List UInt8) (fv : Value) (fs : List Value) : Prop where
  pb : x.heap[p]? = some (.cells cp 110 (0, 0))
  wbk : x.heap[wb]? = some (.cells #[as_, ss, hv] 83 (0, 0))
  row : x.ownsRow 0 108 1 hv hs.length (hs.map ptrTo)
  rt : x.ownsRow 0 9 1 tv ts.length ts
  rb : x.ownsRow 0 5 1 bk l.length (bv l)
  rf : x.ownsRow 0 44 1 fv fs.length fs
  far : Far (fun k => k = p ∨ tv.ownBlock = some k ∨ bk.ownBlock = some k ∨ fv.ownBlock = some k) w x
section
variable {w x y : World} {p wb : Nat} {cp : Array Value} {as_ ss hv tv bk fv : Value} {hs : List Nat} {ts fs : List Value} {l : List UInt8}
theorem FrontG.set (F : FrontG w x p wb cp as_ ss hv hs tv ts bk l fv fs) (j : Nat) (v : Value) : FrontG w (x.setCell ⟨p, j, none⟩ v) p wb (cp.setIfInBounds j v) as_ ss hv hs tv ts bk l fv fs :=
  ⟨blk_set F.pb, (blk_set_ne (blk_ne F.wbk F.pb (by decide))).trans F.wbk, own_set F.row F.pb (by decide), own_set F.rt F.pb (by decide), own_set F.rb F.pb (by decide), own_set F.rf F.pb (by decide), F.far.trans (far_set x p j v) (fun _ _ h => .inl h)⟩
theorem FrontG.below (F : FrontG w x p wb cp as_ ss hv hs tv ts bk l fv fs) (h : Below x.heap.size x y) : FrontG w y p wb cp as_ ss hv hs tv ts bk l fv fs := by
  have hf : Far (fun _ => False) x y := far_below h
  exact ⟨hf.blk F.pb id, hf.blk F.wbk id, hf.own F.row (fun _ _ => id), hf.own F.rt (fun _ _ => id), hf.own F.rb (fun _ _ => id), hf.own F.rf (fun _ _ => id), F.far.trans hf (fun _ _ h => h.elim)⟩
theorem FrontG.lists {ts2 fs2 : List Value} {l2 : List UInt8} (F : FrontG w x p wb cp as_ ss hv hs tv ts bk l fv fs) (h : Far (fun k => tv.ownBlock = some k ∨ bk.ownBlock = some k ∨ fv.ownBlock = some k) x y)
    (ht : y.ownsRow 0 9 1 tv ts2.length ts2) (hb : y.ownsRow 0 5 1 bk l2.length (bv l2)) (hf : y.ownsRow 0 44 1 fv fs2.length fs2) : FrontG w y p wb cp as_ ss hv hs tv ts2 bk l2 fv fs2 :=
  ⟨h.blk F.pb (fun e => e.elim (own_ne F.rt F.pb (by decide)) (fun e => e.elim (own_ne F.rb F.pb (by decide)) (own_ne F.rf F.pb (by decide)))),
    h.blk F.wbk (fun e => e.elim (own_ne F.rt F.wbk (by decide)) (fun e => e.elim (own_ne F.rb F.wbk (by decide)) (own_ne F.rf F.wbk (by decide)))),
    h.own F.row (fun g hg e => e.elim (own_ty F.row F.rt (by decide) hg) (fun e => e.elim (own_ty F.row F.rb (by decide) hg) (own_ty F.row F.rf (by decide) hg))), ht, hb, hf, F.far.trans h (fun _ _ h => .inr h)⟩
end
/-- What all of keep may write. -/
def KeepG (p wb : Nat) (hv tv bk fv : Value) (k : Nat) : Prop := k = p ∨ (tv.ownBlock = some k ∨ bk.ownBlock = some k ∨ fv.ownBlock = some k) ∨ Us wb hv k
theorem FrontG.start {A : Nat → Nat → Prop} {w x Z : World} {p wb nt B : Nat} {as_ ss hv hv3 tv bk fv : Value} {hs : List Nat} {l : List UInt8} {fs : List Value} {m : Int} {t : ByteArray}
    (F : FrontG w x p wb #[tv, bk, fv, .int .i64 m, .string t, .string ⟨l.toArray⟩] as_ ss hv hs tv (List.replicate nt (.string t)) bk l fv fs) (D : Add x Z wb as_ ss hv hv3 (hs.map ptrTo ++ [ptrTo p]))
    (hA : ∀ b o, A b o → b < w.heap.size ∧ ¬ KeepG p wb hv tv bk fv b) (hall : ∀ q ∈ hs, HoldAt A w q) (hB : ∀ g, (hv.ownBlock = some g ∨ bk.ownBlock = some g) → g < B) (hwb : wb < B) (hwB : w.heap.size ≤ B) (hfs : ∀ f ∈ fs, NewBytes B x f t.data.toList) :
    TurnG (fun b o => A b o ∨ b = p ∨ (tv.ownBlock = some b ∨ bk.ownBlock = some b ∨ fv.ownBlock = some b) ∨ w.heap.size ≤ b) (KeepG p wb hv tv bk fv) w Z wb p as_ ss hv tv bk fv hv3 tv bk fv (hs ++ [p]) m t l fs nt := by
  have hpw : p ≠ wb := fun e => blk_ne F.wbk F.pb (by decide) e.symm
  have hhp : hv.ownBlock ≠ some p := own_ne F.row F.pb (by decide)
  have htp : tv.ownBlock ≠ some p := own_ne F.rt F.pb (by decide)
  have hbp : bk.ownBlock ≠ some p := own_ne F.rb F.pb (by decide)
  have hfp : fv.ownBlock ≠ some p := own_ne F.rf F.pb (by decide)
  have hup : ¬ Us wb hv p := fun e => e.elim hpw hhp
  have hut : ∀ g, tv.ownBlock = some g → ¬ Us wb hv g := fun g hg e => e.elim (fun e => own_ne F.rt F.wbk (by decide) (e ▸ hg)) (fun e => own_ty F.rt F.row (by decide) hg e)
  have hub : ∀ g, bk.ownBlock = some g → ¬ Us wb hv g := fun g hg e => e.elim (fun e => own_ne F.rb F.wbk (by decide) (e ▸ hg)) (fun e => own_ty F.rb F.row (by decide) hg e)
  have huf : ∀ g, fv.ownBlock = some g → ¬ Us wb hv g := fun g hg e => e.elim (fun e => own_ne F.rf F.wbk (by decide) (e ▸ hg)) (fun e => own_ty F.rf F.row (by decide) hg e)
  have hpb := D.far.blk F.pb hup
  have hrt := D.far.own F.rt hut
  have hrb := D.far.own F.rb hub
  have hrf := D.far.own F.rf huf
  have hnew : ∀ b, b < x.heap.size → ¬ Us wb hv b → ¬ Us wb hv3 b := by
    intro b hb hu e
    rcases e with e | e
    · exact hu (.inl e)
    · rcases D.loc with h | h | ⟨g, h, hg⟩
      · rw [h] at e; cases e
      · exact hu (.inr (h ▸ e))
      · rw [h] at e; injection e with e; omega
  have hpx := lt_of_block F.pb
  have hfar : Far (KeepG p wb hv tv bk fv) w Z := (F.far.mono (E' := KeepG p wb hv tv bk fv) (fun k _ h => h.elim .inl (fun h => .inr (.inl h)))).trans D.far (fun k _ h => .inr (.inr h))
  have hrt2 : Z.ownsRow 0 9 1 tv nt (List.replicate nt (.string t)) := by rw [List.length_replicate] at hrt; exact hrt
  have hfr : ∀ f ∈ fs, BAt (fun b o => Calm Z.heap.size (Us wb hv3) tv nt bk l.length fv fs.length b o ∧ (A b o ∨ b = p ∨ (tv.ownBlock = some b ∨ bk.ownBlock = some b ∨ fv.ownBlock = some b) ∨ w.heap.size ≤ b)) Z f t.data.toList := by
    intro f hf
    obtain ⟨g, cap, C, fr, rfl, h1, h2, h3, h4, h5⟩ := hfs f hf
    have hug : ¬ Us wb hv g := fun e => e.elim (fun e => by omega) (fun e => by have := hB g (.inl e); omega)
    have h4' := D.far.blk h4 hug
    refine ⟨_, cap, rfl, h2, h3, fun _ => ⟨g, 0, rfl, fun i hi => ⟨⟨lt_of_block h4', hnew g (lt_of_block h4) hug, fun e => absurd e (own_ne hrt h4' (by decide)), fun e => by have := hB g (.inr e); omega, fun e => absurd e (own_ne hrf h4' (by decide))⟩, .inr (.inr (.inr (by omega)))⟩, fun i hi => ?_⟩⟩
    rw [Nat.zero_add, blk_cell h4']
    exact h5 i hi
  refine ⟨D.blk, by simpa using D.row, hpb, hrt2, hrb, hrf, ?_, hfr, hfar, D.loc.mono F.far.size, .inr (.inl rfl), .inr (.inl rfl), .inr (.inl rfl)⟩
  intro q hq
  rcases List.mem_append.1 hq with hq | hq
  · refine ((hall q hq).keep (fun b o h => ?_)).mono (fun b o h => ?_)
    · obtain ⟨h1, h2⟩ := hA b o h
      exact World.cell?_of_block (hfar.rest b h1 h2)
    · obtain ⟨h1, h2⟩ := hA b o h
      exact ⟨⟨Nat.lt_of_lt_of_le h1 hfar.size, hnew b (Nat.lt_of_lt_of_le h1 F.far.size) (fun e => h2 (.inr (.inr e))), fun e => absurd (.inr (.inl (.inl e))) h2, fun e => absurd (.inr (.inl (.inr (.inl e)))) h2, fun e => absurd (.inr (.inl (.inr (.inr e)))) h2⟩, .inl h⟩
  · rw [List.mem_singleton] at hq
    subst hq
    refine ⟨tv, bk, fv, nt, l, fs, m, t, fun i _ => ⟨⟨lt_of_block hpb, hnew q hpx hup, fun e => absurd e htp, fun e => absurd e hbp, fun e => absurd e hfp⟩, .inr (.inl rfl)⟩, fun i _ => blk_cell hpb, ?_, ?_, ?_, hfr⟩
    · exact rd_of_row hrt fun g hg i hi => ⟨⟨(World.ownsRow.lt hrt g hg).2, hnew g (World.ownsRow.lt F.rt g hg).2 (hut g hg), fun _ => by simpa using hi, fun e => absurd e (own_ty hrt hrb (by decide) hg), fun e => absurd e (own_ty hrt hrf (by decide) hg)⟩, .inr (.inr (.inl (.inl hg)))⟩
    · have hrb' : Z.ownsRow 0 5 1 bk (bv l).length (bv l) := by rw [bv_length]; exact hrb
      exact bat_of_row hrb' fun g hg i hi => ⟨⟨(World.ownsRow.lt hrb g hg).2, hnew g (World.ownsRow.lt F.rb g hg).2 (hub g hg), fun e => absurd e (own_ty hrb hrt (by decide) hg), fun _ => hi, fun e => absurd e (own_ty hrb hrf (by decide) hg)⟩, .inr (.inr (.inl (.inr (.inl hg))))⟩
    · exact rd_of_row hrf fun g hg i hi => ⟨⟨(World.ownsRow.lt hrf g hg).2, hnew g (World.ownsRow.lt F.rf g hg).2 (huf g hg), fun e => absurd e (own_ty hrf hrt (by decide) hg), fun e => absurd e (own_ty hrf hrb (by decide) hg), fun _ => hi⟩, .inr (.inr (.inl (.inr (.inr hg))))⟩
end Go.Proofs.YtamafdcnbcoegaaGreat
namespace Go.Proofs.YtamafdcnbcoegaaGreat
open Go.RowKit

set_option maxRecDepth 100000 in
set_option maxHeartbeats 4000000 in
theorem keepAll_any (A : Nat → Nat → Prop) (w : World) (wb p : Nat) (as_ ss hv tv bk fv : Value) (hs : List Nat) (ts fs : List Value) (l : List UInt8) (H : WorldAt A w wb as_ ss hv hs)
    (hp : w.heap[p]? = some (.cells #[tv, bk, fv, .int .i64 0, .string ⟨#[]⟩, .string ⟨#[]⟩] 110 (0, 0))) (ht : w.ownsRow 0 9 1 tv ts.length ts) (hbk : w.ownsRow 0 5 1 bk l.length (bv l)) (hff : w.ownsRow 0 44 1 fv fs.length fs)
    (hA : ∀ b o, A b o → b < w.heap.size ∧ ¬ KeepG p wb hv tv bk fv b) (z1 : hs.length + 4 ≤ 17592186044416) (z2 : l.length ≤ 140737488353990) (z3 : ts.length ≤ 900) (z4 : fs.length ≤ 900) :
    Calls Tryz.prog 76 #[ptrTo wb, ptrTo p] w fun r w' => r = .returned (.tuple #[]) ∧ ∃ hv2 hs2, hs2.length = hs.length + 4 ∧ WorldAt (fun b o => (b < w'.heap.size ∧ ¬ Us wb hv2 b) ∧ (A b o ∨ b = p ∨ (tv.ownBlock = some b ∨ bk.ownBlock = some b ∨ fv.ownBlock = some b) ∨ w.heap.size ≤ b)) w' wb as_ ss hv2 hs2 ∧
      Far (KeepG p wb hv tv bk fv) w w' ∧ Loc w hv hv2 := by
  obtain ⟨hblk, hrow, hall⟩ := H
  have F0 : FrontG w w p wb _ as_ ss hv hs tv ts bk l fv fs := ⟨hp, hblk, hrow, ht, hbk, hff, Far.refl _ _⟩
  have hrow' : Row (fun _ => True) w 108 hv (hs.map ptrTo) := ⟨by rw [List.length_map]; exact hrow, fun _ _ => trivial⟩
  obtain ⟨ha, hcap, hhv, h1, h2, h3⟩ := hrow'.shape
  rw [List.length_map] at hhv
  have HWB := hide (lt_of_block hblk)
  have HHV := hide (fun g hg => (World.ownsRow.lt hrow g hg).2)
  have HBK := hide (fun g hg => (World.ownsRow.lt hbk g hg).2)
  subst hhv
  have HA := hide hA
  have HALL := hide hall
  have c2 := blk_cell (i := 2) hblk
  have p3 := blk_cell (i := 3) hp
  have f3 := blk_free (i := 3) hp
  simp at c2 p3
  have FF0 := hide F0
  have n1 : (hs.length : Int) + 1 ≤ 9223372036854775807 := by omega
  clear hblk hrow hall hrow' h1 h2 h3 hA hp hbk ht hff F0
  unfold ptrTo
  go_enter Tryz.func76, Tryz.ntmps76
  go_upto_region 1 with fail
  refine wp_world (fun x => FrontG w x p wb #[tv, bk, fv, .int .i64 (hs.length + 1), .string ⟨#[]⟩, .string ⟨#[]⟩] as_ ss (.slice ha hs.length hcap) hs tv ts bk l fv fs) (by simpa using (unhide FF0).set 3 (.int .i64 (hs.length + 1))) ?_
  clear f3 c2 p3 FF0 n1
  generalize (hs.length : Int) + 1 = m
  intro x1 F1
  have p3 := blk_cell (i := 3) F1.pb
  simp at p3
  have FF1 := hide F1
  clear F1
  go_upto_region 2 with (go_at_call 114; refine (text_any _ _).mono ?_; rintro r x2 ⟨t, rfl, ht3, hb2⟩; have F2 := (unhide FF1).below hb2; have p4 := blk_cell (i := 4) F2.pb; have f4 := blk_free (i := 4) F2.pb; simp at p4; have FF2 := hide F2; have HT3 := hide ht3; clear F2 hb2 ht3 p3)
  refine wp_world (fun x => FrontG w x p wb #[tv, bk, fv, .int .i64 m, .string t, .string ⟨#[]⟩] as_ ss (.slice ha hs.length hcap) hs tv ts bk l fv fs) (by simpa using (unhide FF2).set 4 (.string t)) ?_
  clear p4 f4 FF2 FF1
  intro x3 F3
  have FF3 := hide F3
  clear F3
  go_upto_region 3 with (go_at_call 115; refine (marksAll_any p _ tv bk fv ts fs l m t ⟨#[]⟩ (unhide FF3).pb (unhide FF3).rt (unhide FF3).rb (unhide FF3).rf (by omega) (by omega) (by omega) (by have := unhide HT3; omega)).mono ?_; rintro r x4 ⟨rfl, l2, fs2, hl2, hfs2, ht4, hb4, hf4, hnb4, hgr⟩; rw [← hl2] at hb4; rw [← hfs2] at hf4; have F4 := (unhide FF3).lists hgr (ts2 := List.replicate ts.length (.string t)) (by rw [List.length_replicate]; exact ht4) hb4 hf4; have FF4 := hide F4; have HL2 := hide hl2; have HFS2 := hide hfs2; have HNB4 := hide hnb4; clear F4 hgr ht4 hb4 hf4 hl2 hfs2 hnb4)
  have p1 := blk_cell (i := 1) (unhide FF4).pb
  have p5 := blk_cell (i := 5) (unhide FF4).pb
  have f5 := blk_free (i := 5) (unhide FF4).pb
  simp at p1 p5
  have hcs := (bat_of_row (A := fun _ _ => True) (by have := (unhide FF4).rb; rw [← bv_length l2] at this; exact this) (fun _ _ _ _ => trivial)).str
  go_upto_region 4 with fail
  refine wp_world (fun x => FrontG w x p wb #[tv, bk, fv, .int .i64 m, .string t, .string ⟨l2.toArray⟩] as_ ss (.slice ha hs.length hcap) hs tv (List.replicate ts.length (.string t)) bk l2 fv fs2 ∧ ∀ f ∈ fs2, NewBytes x3.heap.size x f t.data.toList) ⟨by simpa using (unhide FF4).set 5 (.string ⟨l2.toArray⟩), fun f hf => ((unhide HNB4) f hf).set (unhide FF4).pb⟩ ?_
  clear p1 p5 f5 hcs FF4 HNB4
  rintro x5 ⟨F5, N5⟩
  have c2 := blk_cell (i := 2) F5.wbk
  simp at c2
  have FF5 := hide F5
  have NN5 := hide N5
  clear F5 N5
  go_upto_region 5 with (at_builtin; (refine wpList_app1 rfl (.tmp 37) (.tmp 39) 81 rfl 108 (.pointer none) 8 Tryz.underlying81 info49 rfl (.slice ha hs.length hcap) (hs.map ptrTo) (World.ownsRow.alloc (by rw [List.length_map]; exact (unhide FF5).row) _) rfl ⟨x5.heap.size, 0, none⟩ (ptrTo p) rfl (by simp [ptrTo]) rfl (by rw [List.length_map]; omega) (by rw [List.length_map]; omega) ?_; intro v1 w1 hown1 hold1 happ1; obtain ⟨g1, cap1, hv1⟩ := own_shape hown1 (by simp); rw [show (hs.map ptrTo ++ [ptrTo p]).length = hs.length + 1 by simp] at hv1; subst hv1; have D := add_of (unhide FF5).wbk (by rw [List.length_map]; exact (unhide FF5).row) happ1 hown1; have hwb1 := app_blk happ1 (fun k hk => Below.heap_alloc x5 _ k hk) (by simp) (unhide FF5).wbk (own_ne (unhide FF5).row (unhide FF5).wbk (by decide)); have c21 := blk_cell (i := 2) hwb1; have f21 := blk_free (i := 2) hwb1; simp at c21; have DD := hide D; clear D hwb1 hown1 hold1 happ1))
  refine wp_world (fun x => TurnG (fun b o => A b o ∨ b = p ∨ (tv.ownBlock = some b ∨ bk.ownBlock = some b ∨ fv.ownBlock = some b) ∨ w.heap.size ≤ b) (KeepG p wb (.slice ha hs.length hcap) tv bk fv) w x wb p as_ ss (.slice ha hs.length hcap) tv bk fv (.slice (some ⟨g1, 0, none⟩) (hs.length + 1) cap1) tv bk fv (hs ++ [p]) m t l2 fs2 ts.length)
    ((unhide FF5).start (B := x3.heap.size) (unhide DD) (unhide HA) (unhide HALL) (fun g hg => Nat.lt_of_lt_of_le (hg.elim ((unhide HHV) g) ((unhide HBK) g)) (unhide FF3).far.size) (Nat.lt_of_lt_of_le (unhide HWB) (unhide FF3).far.size) (unhide FF3).far.size (unhide NN5)) ?_
  clear c2 c21 f21 DD FF5 HA HALL NN5 FF3 HWB HHV HBK
  intro x6 T6
  have TT6 := hide T6
  clear T6
  go_wp2
  go_loopw [4, 5] (fun g i wr => ∃ (k pk : Nat) (hv' tv' bk' fv' : Value) (hs' : List Nat) (l' : List UInt8) (fs' : List Value), k ≤ 3 ∧ g = .pointer (some ⟨pk, 0, none⟩) ∧ i = .int .i64 k ∧ hs'.length = hs.length + 1 + k ∧ l'.length = l.length + k ∧ fs'.length = fs.length + k ∧
    TurnG (fun b o => A b o ∨ b = p ∨ (tv.ownBlock = some b ∨ bk.ownBlock = some b ∨ fv.ownBlock = some b) ∨ w.heap.size ≤ b) (KeepG p wb (.slice ha hs.length hcap) tv bk fv) w wr wb pk as_ ss (.slice ha hs.length hcap) tv bk fv hv' tv' bk' fv' hs' m t l' fs' (ts.length + k)) (fun _ i _ => 3 - (intOf i).toNat)
  case atStart => exact ⟨0, p, _, _, _, _, hs ++ [p], l2, fs2, by omega, rfl, rfl, by simp, unhide HL2, unhide HFS2, unhide TT6⟩
  case round =>
    obtain ⟨k, pk, hv', tv', bk', fv', hs', l', fs', hk, rfl, rfl, hhs, hll, hfl, T⟩ := hrel
    have HHS := hide hhs
    have HLL := hide hll
    have HFL := hide hfl
    have ht3 := unhide HT3
    have hlz : l'.length ≤ 140737488354000 := by omega
    have hfz : fs'.length ≤ 1000 := by omega
    have htz : t.size ≤ 3 := by omega
    clear hhs hll hfl ht3 HT3 TT6
    by_cases hlt : k < 3
    · have HL := hide (longer_any pk wr tv' bk' fv' (ts.length + k) l' fs' m t T.pb T.rt T.rb T.rf (by omega) hlz hfz htz)
      have TT := hide T
      clear T hlz htz hfz
      go_upto_region 10 with (go_at_call 116; refine (unhide HL).mono ?_; rintro r X ⟨q, tv2, bk2, fv2, v6, b, rfl, M, N⟩; have hX := (unhide TT).mid M; have x2 := blk_cell (i := 2) hX.1; simp at x2; have HX := hide hX; have MM := hide M; have NN := hide N; clear hX M N)
      simp only [ptrTo]
      go_upto_region 8 with (at_builtin; (refine wpList_app1 rfl (.tmp 54) (.tmp 56) 81 rfl 108 (.pointer none) 8 Tryz.underlying81 info49 rfl hv' (hs'.map ptrTo) (World.ownsRow.alloc (unhide HX).2 _) rfl ⟨X.heap.size, 0, none⟩ (ptrTo q) rfl (by simp [ptrTo]) rfl (by rw [List.length_map]; have := unhide HHS; omega) (by rw [List.length_map]; have := unhide HHS; omega) ?_; intro v7 w7 hown7 hold7 happ7; obtain ⟨g7, cap7, hv7⟩ := own_shape hown7 (by simp); rw [show (hs'.map ptrTo ++ [ptrTo q]).length = hs'.length + 1 by simp] at hv7; subst hv7; have D := add_of (unhide HX).1 (unhide HX).2 happ7 hown7; have hwb7 := app_blk happ7 (fun k hk => Below.heap_alloc X _ k hk) (by simp) (unhide HX).1 (own_ne (unhide HX).2 (unhide HX).1 (by decide)); have c27 := blk_cell (i := 2) hwb7; have f27 := blk_free (i := 2) hwb7; simp at c27; have DD := hide D; clear D hwb7 hown7 hold7 happ7))
      have TN := hide ((unhide TT).next (unhide MM) (unhide NN) (fun _ _ => unhide DD) (fun g _ h => h.elim (fun h => .inr (.inr h)) (fun h => .inr (.inl h))) (fun b o h => h.elim (fun h => .inr (.inr (.inr h))) (fun h => .inr (.inr (.inl h)))))
      clear x2 c27 f27 DD
      go_wp2
      go_roundw
      case rel => exact ⟨k + 1, q, _, _, _, _, _, _, _, by omega, rfl, by go_num, by have := unhide HHS; simp; omega, by have := unhide HLL; simp; omega, by have := unhide HFL; simp; omega, unhide TN⟩
      case measure => simp [intOf]; omega
    · have hk3 : k = 3 := by omega
      subst hk3
      have TT := hide T
      clear T hlz htz
      go_wp2
      refine bodyPost_end (results_none rfl _ _ _) rfl ?_
      have T := unhide TT
      exact ⟨rfl, hv', hs', by have := unhide HHS; omega, ⟨T.wbk, T.row, fun q hq => (T.holds q hq).mono (fun b o h => ⟨⟨h.1.1, h.1.2.1⟩, h.2⟩)⟩, T.far, T.lh⟩
end Go.Proofs.YtamafdcnbcoegaaGreat
namespace Go.Proofs.YtamafdcnbcoegaaGreat
open Go.RowKit

theorem WorldAt.mono {A A' : Nat → Nat → Prop} {w : World} {wb : Nat} {as_ ss hv : Value} {hs : List Nat} (h : WorldAt A w wb as_ ss hv hs) (hA : ∀ b o, A b o → A' b o) : WorldAt A' w wb as_ ss hv hs :=
  ⟨h.blk, h.row, fun p hp => (h.all p hp).mono hA⟩
/-- A list that is there, wherever. -/
def ListAt (w : World) (v : Value) (xs : List Value) : Prop :=
  ∃ ad cap, v = .slice ad xs.length cap ∧ xs.length ≤ cap ∧ cap ≤ maxLen ∧ (0 < xs.length → ∃ g o, ad = some ⟨g, o, none⟩ ∧ g < w.heap.size ∧ ∀ i, i < xs.length → w.cell? ⟨g, o + i, none⟩ = xs[i]?)
theorem listAt_own {B : Nat} {w : World} {e : TypeId} {v : Value} {n : Nat} {xs : List Value} (h : w.ownsRow B e 1 v n xs) : ListAt w v xs := by
  have hn : xs.length = n := by have := h.1; omega
  subst hn
  have h0 := h
  obtain ⟨h1, h2⟩ := h
  rcases h2 with ⟨e1, h2⟩ | ⟨g, cap, cur, e1, hB, hh, hc1, hc2, _, ht⟩
  · exact ⟨none, 0, by rw [h2]; exact e1, by omega, by unfold maxLen; omega, fun h => by omega⟩
  · subst e1
    exact ⟨_, cap, rfl, hc1, hc2, fun _ => ⟨g, 0, rfl, lt_of_block hh, fun i hi => by rw [Nat.zero_add]; exact World.ownsRow.cellAt h0 i (by omega)⟩⟩
set_option maxRecDepth 100000 in
set_option maxHeartbeats 2000000 in
theorem told_yes (A : Nat → Nat → Prop) (w : World) (wb : Nat) (as_ ss hv lv wv : Value) (hs : List Nat) (L : List ByteArray) (H : WorldAt A w wb as_ ss hv hs)
    (hl : w.ownsRow 0 9 1 lv L.length (strs L)) (hm : ListAt w wv (strs L)) (hA : ∀ b o, A b o → b < w.heap.size ∧ ¬ (lv.ownBlock = some b ∨ Us wb hv b)) (z1 : hs.length + 4 ≤ 17592186044416) (z2 : L.length ≤ 900) :
    Calls Tryz.prog 123 #[ptrTo wb, lv, wv] w fun r w' => r = .returned (.bool true) ∧ ∃ hv2 hs2, hs2.length = hs.length + 4 ∧ WorldAt (fun b o => (b < w'.heap.size ∧ ¬ Us wb hv2 b) ∧ (A b o ∨ lv.ownBlock = some b ∨ w.heap.size ≤ b)) w' wb as_ ss hv2 hs2 ∧
      Far (fun k => lv.ownBlock = some k ∨ Us wb hv k) w w' ∧ Loc w hv hv2 := by
  obtain ⟨la, lc, hlv, hl1, hl2, hl3⟩ := listAt_own hl
  obtain ⟨ma, mc, hmv, hm1, hm2, hm3⟩ := hm
  rw [strs_length] at hlv hl1 hl3 hmv hm1 hm3
  subst hlv hmv
  have HL3 := hide hl3
  have HM3 := hide hm3
  have HL := hide hl
  have HH := hide H
  have HA := hide hA
  have n1 : L.length ≤ 9223372036854775807 := by omega
  clear hl3 hm3 hl H hA
  unfold ptrTo
  go_enter Tryz.func123, Tryz.ntmps123
  go_wp2
  go_loopw [7, 8] (fun ok i wr => ∃ k : Nat, k ≤ L.length ∧ i = .int .i64 k ∧ ok = .bool true ∧ ∃ q, wr = w.drewN q) (fun _ i _ => L.length - (intOf i).toNat)
  case atStart => exact ⟨0, by omega, rfl, rfl, 0, rfl⟩
  case round =>
    obtain ⟨k, hk, rfl, rfl, q, rfl⟩ := hrel
    by_cases hlt : k < L.length
    · obtain ⟨g, o, rfl, _, hc⟩ := (unhide HL3) (by omega)
      obtain ⟨g2, o2, rfl, _, hc2⟩ := (unhide HM3) (by omega)
      have hx : (strs L)[k]? = some (.string L[k]) := by simp [strs, hlt]
      have y1 := (hc k hlt).trans hx
      have y2 := (hc2 k hlt).trans hx
      clear hc hc2 hx
      generalize L[k] = bk at y1 y2
      go_wp2
      go_quiet (fail)
      go_wp2
      go_roundw
      case rel => exact ⟨k + 1, by omega, by go_num, rfl, q + nq, by simp⟩
      case measure => simp [intOf]; omega
    · clear hk
      have HK := hide (keepAll_any A ((w.drewN q).alloc (.cells #[.slice la L.length lc, .slice none 0 0, .slice none 0 0, .int .i64 0, .string ⟨#[]⟩, .string ⟨#[]⟩] 110)) wb w.heap.size as_ ss hv (.slice la L.length lc) (.slice none 0 0) (.slice none 0 0) hs (strs L) [] []
        ⟨(Below.heap_alloc _ _ _ (lt_of_block (unhide HH).blk)).trans (unhide HH).blk, World.ownsRow.alloc (w := w.drewN q) (unhide HH).row _, fun x hx => ((unhide HH).all x hx).keep (fun b o h => World.cell?_of_block (Below.heap_alloc (w.drewN q) _ b ((unhide HA) b o h).1))⟩
        (heap_alloc_new (w.drewN q) _) (by rw [strs_length]; exact World.ownsRow.alloc (w := w.drewN q) (unhide HL) _) (World.ownsRow_nil _ _ _ _) (World.ownsRow_nil _ _ _ _)
        (fun b o h => ⟨by have := ((unhide HA) b o h).1; simp; omega, fun e => by
          rcases e with e | (e | e | e) | e
          · have := ((unhide HA) b o h).1; omega
          · exact ((unhide HA) b o h).2 (.inl e)
          · cases e
          · cases e
          · exact ((unhide HA) b o h).2 (.inr e)⟩) z1 (by simp) (by rw [strs_length]; exact z2) (by simp))
      unfold ptrTo at HK
      go_wp2_with (go_at_call 76; refine (unhide HK).mono ?_; rintro r w1 ⟨rfl, hv2, hs2, hn2, W2, F2, L2⟩)
      go_ret
      have F0 : Far (fun k => (Value.slice la L.length lc).ownBlock = some k ∨ Us wb hv k) w ((w.drewN q).alloc (.cells #[.slice la L.length lc, .slice none 0 0, .slice none 0 0, .int .i64 0, .string ⟨#[]⟩, .string ⟨#[]⟩] 110)) := far_below ((below_drewN (Below.refl _ _) q).alloc (Nat.le_refl _) _)
      refine ⟨rfl, hv2, hs2, hn2, W2.mono (fun b o h => ⟨h.1, h.2.elim .inl (fun h => h.elim (fun h => .inr (.inr (by omega))) (fun h => h.elim (fun h => h.elim (fun h => .inr (.inl h)) (fun h => h.elim (fun h => by cases h) (fun h => by cases h))) (fun h => .inr (.inr (by simp at h; omega)))))⟩), F0.trans F2 (fun k hk e => ?_), L2.mono F0.size⟩
      rcases e with e | (e | e | e) | e
      · omega
      · exact .inl e
      · cases e
      · cases e
      · exact .inr e
end Go.Proofs.YtamafdcnbcoegaaGreat
namespace Go.Proofs.YtamafdcnbcoegaaGreat
open Go.RowKit

/-- The blocks of the first frames. -/
def Done (fs : List Value) (i b : Nat) : Prop := ∃ j, j < i ∧ ∃ v, fs[j]? = some v ∧ v.ownBlock = some b
theorem Done.mono {fs : List Value} {i i' b : Nat} (h : Done fs i b) (hi : i ≤ i') : Done fs i' b := by
  obtain ⟨j, hj, r⟩ := h
  exact ⟨j, by omega, r⟩

set_option maxRecDepth 100000 in
set_option maxHeartbeats 4000000 in
theorem same_yes (A : Nat → Nat → Prop) (w : World) (wb : Nat) (as_ ss hv lv wv : Value) (hs : List Nat) (fs : List Value) (Fl : List (List UInt8)) (H : WorldAt A w wb as_ ss hv hs) (hlen : fs.length = Fl.length)
    (hl : w.ownsRow 0 44 1 lv fs.length fs) (hm : ListAt w wv (txts Fl)) (hfr : ∀ (j : Nat) (v : Value), fs[j]? = some v → w.ownsRow 0 5 1 v (Fl.getD j []).length (bv (Fl.getD j [])))
    (hap : ∀ (i j : Nat) (u v : Value), fs[i]? = some u → fs[j]? = some v → i ≠ j → ∀ g, u.ownBlock = some g → v.ownBlock ≠ some g)
    (hA : ∀ b o, A b o → b < w.heap.size ∧ ¬ (lv.ownBlock = some b ∨ Done fs fs.length b ∨ Us wb hv b)) (z1 : hs.length + 4 * fs.length + 4 ≤ 17592186044416) (z2 : fs.length ≤ 900) (z3 : ∀ j, (Fl.getD j []).length ≤ 1000) :
    Calls Tryz.prog 120 #[ptrTo wb, lv, wv] w fun r w' => r = .returned (.bool true) ∧ ∃ hv2 hs2, hs2.length = hs.length + 4 * fs.length + 4 ∧ WorldAt (fun b o => (b < w'.heap.size ∧ ¬ Us wb hv2 b) ∧ (A b o ∨ (lv.ownBlock = some b ∨ Done fs fs.length b) ∨ w.heap.size ≤ b)) w' wb as_ ss hv2 hs2 ∧
      Far (fun k => (lv.ownBlock = some k ∨ Done fs fs.length k) ∨ Us wb hv k) w w' ∧ Loc w hv hv2 := by
  obtain ⟨la, lc, hlv, hl1, hl2, hl3⟩ := listAt_own hl
  obtain ⟨ma, mc, hmv, hm1, hm2, hm3⟩ := hm
  rw [txts_length, ← hlen] at hmv hm1 hm3
  subst hlv hmv
  have HL3 := hide hl3
  have HM3 := hide hm3
  have HL := hide hl
  have HH := hide H
  have HA := hide hA
  have HFR := hide hfr
  have HAP := hide hap
  have HLEN := hide hlen
  have HZ3 := hide z3
  obtain ⟨n, hn⟩ : ∃ n, n = fs.length := ⟨_, rfl⟩
  rw [← hn] at z1 z2 hl1 hm1 HL3 HM3 HL ⊢
  have HN := hide hn
  have n1 : n ≤ 9223372036854775807 := by omega
  clear hl3 hm3 hl H hA hfr hap hlen z3 hn
  unfold ptrTo
  go_enter Tryz.func120, Tryz.ntmps120
  go_wp2
  go_loopw [7, 8] (fun ok i wr => ∃ k : Nat, k ≤ n ∧ i = .int .i64 k ∧ ok = .bool true ∧ ∃ q, wr = w.drewN q) (fun _ i _ => n - (intOf i).toNat)
  case atStart => exact ⟨0, by omega, rfl, rfl, 0, rfl⟩
  case round =>
    obtain ⟨k, hk, rfl, rfl, q, rfl⟩ := hrel
    by_cases hlt : k < n
    · have hkf : k < fs.length := by have := unhide HN; omega
      obtain ⟨g, o, rfl, _, hc⟩ := (unhide HL3) (by omega)
      obtain ⟨g2, o2, rfl, _, hc2⟩ := (unhide HM3) (by omega)
      have y1 := hc k hlt
      rw [List.getElem?_eq_getElem hkf] at y1
      have hkF : k < Fl.length := by have := unhide HN; have := unhide HLEN; omega
      have y2 := (hc2 k hlt).trans (show (txts Fl)[k]? = some (.string ⟨(Fl.getD k []).toArray⟩) by simp [txts, hkF])
      have hrow := (unhide HFR) k fs[k] (List.getElem?_eq_getElem hkf)
      have hcs := fun m => ((bat_of_row (A := fun _ _ => True) (w := w) (by rw [bv_length]; exact hrow) (fun _ _ _ _ => trivial)).keep (w' := w.drewN m) (fun _ _ _ => rfl)).str
      clear hc hc2 hrow
      generalize fs[k] = fk at y1 hcs
      generalize Fl.getD k [] = bk at y2 hcs
      go_wp2
      go_quiet (fail)
      go_wp2
      go_roundw
      case rel => exact ⟨k + 1, by omega, by go_num, rfl, q + nq, by simp⟩
      case measure => simp [intOf]; omega
    · clear hk
      go_wp2
      go_loopw [9] (fun i wr => ∃ (k : Nat) (hv2 : Value) (hs2 : List Nat), k ≤ n ∧ i = .int .i64 k ∧ hs2.length = hs.length + 4 * k ∧ WorldAt (fun b o => (b < wr.heap.size ∧ ¬ Us wb hv2 b) ∧ (A b o ∨ Done fs k b ∨ w.heap.size ≤ b)) wr wb as_ ss hv2 hs2 ∧ Far (fun b => Done fs k b ∨ Us wb hv b) w wr ∧ Loc w hv hv2) (fun i _ => n - (intOf i).toNat)
      case atStart =>
        have hF : Far (fun b => Done fs 0 b ∨ Us wb hv b) w (w.drewN q) := far_below (below_drewN (Below.refl _ _) q)
        refine ⟨0, hv, hs, by omega, rfl, by simp, ⟨(unhide HH).blk, (unhide HH).row, fun x hx => (((unhide HH).all x hx).keep (w' := w.drewN q) (fun _ _ _ => rfl)).mono (fun b o h => ?_)⟩, hF, .inr (.inl rfl)⟩
        exact ⟨⟨((unhide HA) b o h).1, fun e => ((unhide HA) b o h).2 (.inr (.inr e))⟩, .inl h⟩
      case round =>
        obtain ⟨k, hv2, hs2, hk, rfl, hn2, W, hF, hL⟩ := hrel
        by_cases hltk : k < n
        · have hkf : k < fs.length := by have := unhide HN; omega
          obtain ⟨g, o, rfl, hgl, hc⟩ := (unhide HL3) (by omega)
          have hlu : ¬ (Done fs k g ∨ Us wb hv g) := by
            rintro (⟨j, hj, v, h1, h2⟩ | e | e)
            · exact own_ty ((unhide HFR) j v h1) (unhide HL) (by decide) h2 rfl
            · exact own_ne (unhide HL) (unhide HH).blk (by decide) (by rw [← e]; rfl)
            · exact own_ty (unhide HL) (unhide HH).row (by decide) rfl e
          have y1 := (World.cell?_of_block (a := ⟨g, o + k, none⟩) (hF.rest g hgl hlu)).trans (hc k hltk)
          rw [List.getElem?_eq_getElem hkf] at y1
          have hkv := List.getElem?_eq_getElem hkf
          have hrow := (unhide HFR) k fs[k] hkv
          have hno : ∀ b, (fs[k]).ownBlock = some b → ¬ (Done fs k b ∨ Us wb hv b) := by
            rintro b hb (⟨j, hj, v, h1, h2⟩ | e | e)
            · exact (unhide HAP) j k v fs[k] h1 hkv (by omega) b h2 hb
            · exact own_ne hrow (unhide HH).blk (by decide) (by rw [← e]; exact hb)
            · exact own_ty hrow (unhide HH).row (by decide) hb e
          have hroww := hF.own hrow hno
          have hz := (unhide HZ3) k
          have hlt0 := (World.ownsRow.lt hrow)
          obtain ⟨vk, hvk⟩ : ∃ vk, vk = fs[k] := ⟨_, rfl⟩
          rw [← hvk] at y1 hkv hrow hno hroww hlt0
          have HKV := hide hkv
          obtain ⟨va, vc, hva, _⟩ := Row.shape (A := fun _ => True) ⟨by have := hroww; rw [← bv_length] at this; exact this, fun _ _ => trivial⟩
          rw [bv_length] at hva
          have HK := hide (keepAll_any (fun b o => (b < wr.heap.size ∧ ¬ Us wb hv2 b) ∧ (A b o ∨ Done fs k b ∨ w.heap.size ≤ b)) (wr.alloc (.cells #[.slice none 0 0, vk, .slice none 0 0, .int .i64 0, .string ⟨#[]⟩, .string ⟨#[]⟩] 110)) wb wr.heap.size as_ ss hv2 (.slice none 0 0) vk (.slice none 0 0) hs2 [] [] (Fl.getD k [])
            ⟨(Below.heap_alloc _ _ _ (lt_of_block W.blk)).trans W.blk, World.ownsRow.alloc W.row _, fun x hx => (W.all x hx).keep (fun b o h => World.cell?_of_block (Below.heap_alloc wr _ b h.1.1))⟩
            (heap_alloc_new wr _) (World.ownsRow_nil _ _ _ _) (World.ownsRow.alloc hroww _) (World.ownsRow_nil _ _ _ _)
            (fun b o h => ⟨by have := h.1.1; simp; omega, fun e => by
              rcases e with e | (e | e | e) | e
              · have := h.1.1; omega
              · cases e
              · rcases h.2 with h2 | ⟨j, hj, v, h1, h2⟩ | h2
                · exact ((unhide HA) b o h2).2 (.inr (.inl ⟨k, hkf, vk, hkv, e⟩))
                · exact (unhide HAP) j k v vk h1 hkv (by omega) b h2 e
                · have := (hlt0 b e).2; omega
              · cases e
              · exact h.1.2 e⟩) (by omega) (by omega) (by simp) (by simp))
          unfold ptrTo at HK
          have HW := hide W
          have HF := hide hF
          have HL2 := hide hL
          have HLT0 := hide hlt0
          have HVK := hide hvk
          clear W hF hL hno hrow hroww hlu hc hz hlt0 hkv hvk hl2
          subst hva
          go_upto_region 8 with (go_at_call 76; refine (unhide HK).mono ?_; rintro r w3 ⟨rfl, hv3, hs3, hn3, W3, F3, L3⟩; have HW3 := hide W3; have HF3 := hide F3; have HL3b := hide L3; have HN3 := hide hn3; clear W3 F3 L3 hn3)
          clear y1
          go_wp2
          go_roundw
          case rel =>
            have hkv := unhide HKV
            refine ⟨k + 1, hv3, hs3, by omega, by go_num, by have := unhide HN3; omega, (unhide HW3).mono (fun b o h => ⟨h.1, ?_⟩), ?_, ?_⟩
            · rcases h.2 with h2 | h2 | h2 | h2
              · exact h2.2.elim .inl (fun h => h.elim (fun h => .inr (.inl (h.mono (by omega)))) (fun h => .inr (.inr h)))
              · exact .inr (.inr (by have := (unhide HF).size; omega))
              · rcases h2 with h2 | h2 | h2
                · cases h2
                · exact .inr (.inl ⟨k, by omega, _, hkv, h2⟩)
                · cases h2
              · exact .inr (.inr (by have := (unhide HF).size; simp at h2; omega))
            · have F1 : Far (fun b => Done fs (k + 1) b ∨ Us wb hv b) w wr := (unhide HF).mono (fun b _ h => h.elim (fun h => .inl (h.mono (by omega))) .inr)
              refine (F1.trans (far_below (E := fun b => Done fs (k + 1) b ∨ Us wb hv b) ((Below.refl wr.heap.size wr).alloc (Nat.le_refl _) _)) (fun _ _ h => h)).trans (unhide HF3) (fun b hb e => ?_)
              rcases e with e | (e | e | e) | e | e
              · have := (unhide HF).size; omega
              · cases e
              · exact .inl ⟨k, by omega, _, hkv, e⟩
              · cases e
              · exact .inr (.inl e)
              · rcases unhide HL2 with h | h | ⟨g', h, hg'⟩
                · rw [h] at e; cases e
                · exact .inr (.inr (h ▸ e))
                · rw [h] at e; injection e with e; omega
            · exact loc_trans (unhide HL2) ((unhide HL3b).mono (by simp)) (unhide HF).size
          case measure => simp [intOf]; omega
        · have hkn : n = k := by omega
          have hlu : ∀ g, (Value.slice la n lc).ownBlock = some g → ¬ (Done fs k g ∨ Us wb hv g) := by
            rintro g hg (⟨j, hj, v, h1, h2⟩ | e | e)
            · exact own_ty ((unhide HFR) j v h1) (unhide HL) (by decide) h2 hg
            · exact own_ne (unhide HL) (unhide HH).blk (by decide) (by rw [← e]; exact hg)
            · exact own_ty (unhide HL) (unhide HH).row (by decide) hg e
          have hlw := hF.own (unhide HL) hlu
          have hlt0 := World.ownsRow.lt (unhide HL)
          have HK := hide (keepAll_any (fun b o => (b < wr.heap.size ∧ ¬ Us wb hv2 b) ∧ (A b o ∨ Done fs k b ∨ w.heap.size ≤ b)) (wr.alloc (.cells #[.slice none 0 0, .slice none 0 0, .slice la n lc, .int .i64 0, .string ⟨#[]⟩, .string ⟨#[]⟩] 110)) wb wr.heap.size as_ ss hv2 (.slice none 0 0) (.slice none 0 0) (.slice la n lc) hs2 [] fs []
            ⟨(Below.heap_alloc _ _ _ (lt_of_block W.blk)).trans W.blk, World.ownsRow.alloc W.row _, fun x hx => (W.all x hx).keep (fun b o h => World.cell?_of_block (Below.heap_alloc wr _ b h.1.1))⟩
            (heap_alloc_new wr _) (World.ownsRow_nil _ _ _ _) (World.ownsRow_nil _ _ _ _) (by rw [← unhide HN]; exact World.ownsRow.alloc hlw _)
            (fun b o h => ⟨by have := h.1.1; simp; omega, fun e => by
              rcases e with e | (e | e | e) | e
              · have := h.1.1; omega
              · cases e
              · cases e
              · rcases h.2 with h2 | h2 | h2
                · exact ((unhide HA) b o h2).2 (.inl (by rw [← unhide HN]; exact e))
                · exact hlu b e (.inl h2)
                · have := (hlt0 b e).2; omega
              · exact h.1.2 e⟩) (by omega) (by simp) (by simp) (by have := unhide HN; omega))
          unfold ptrTo at HK
          have HF := hide hF
          have HL2 := hide hL
          have HKN := hide hkn
          clear W hF hL hlu hlw hlt0 hkn hk
          go_wp2_with (go_at_call 76; refine (unhide HK).mono ?_; rintro r w3 ⟨rfl, hv3, hs3, hn3, W3, F3, L3⟩; have HW3 := hide W3; have HF3 := hide F3; have HL3b := hide L3; have HN3 := hide hn3; clear W3 F3 L3 hn3)
          go_ret
          have hkn := unhide HKN
          refine ⟨rfl, hv3, hs3, by have := unhide HN3; omega, (unhide HW3).mono (fun b o h => ⟨h.1, ?_⟩), ?_, ?_⟩
          · rcases h.2 with h2 | h2 | h2 | h2
            · exact h2.2.elim .inl (fun h => h.elim (fun h => .inr (.inl (.inr (h.mono (by have := unhide HN; omega))))) (fun h => .inr (.inr h)))
            · exact .inr (.inr (by have := (unhide HF).size; omega))
            · rcases h2 with h2 | h2 | h2
              · cases h2
              · cases h2
              · exact .inr (.inl (.inl h2))
            · exact .inr (.inr (by have := (unhide HF).size; simp at h2; omega))
          · have F1 : Far (fun b => ((Value.slice la n lc).ownBlock = some b ∨ Done fs n b) ∨ Us wb hv b) w wr := (unhide HF).mono (fun b _ h => h.elim (fun h => .inl (.inr (h.mono (by have := unhide HN; omega)))) .inr)
            refine (F1.trans (far_below (E := fun b => ((Value.slice la n lc).ownBlock = some b ∨ Done fs n b) ∨ Us wb hv b) ((Below.refl wr.heap.size wr).alloc (Nat.le_refl _) _)) (fun _ _ h => h)).trans (unhide HF3) (fun b hb e => ?_)
            rcases e with e | (e | e | e) | e | e
            · have := (unhide HF).size; omega
            · cases e
            · cases e
            · exact .inl (.inl e)
            · exact .inr (.inl e)
            · rcases unhide HL2 with h | h | ⟨g', h, hg'⟩
              · rw [h] at e; cases e
              · exact .inr (.inr (h ▸ e))
              · rw [h] at e; injection e with e; omega
          · exact loc_trans (unhide HL2) ((unhide HL3b).mono (by simp)) (unhide HF).size
end Go.Proofs.YtamafdcnbcoegaaGreat
namespace Go.Proofs.YtamafdcnbcoegaaGreat
open Go.RowKit

/-- Every operation behind the cut waits for one from the cut on. -/
def lateB (ops : Array Oper) (c : Nat) : Bool := (List.range ops.size).all fun k => decide (k ≤ c) || (List.range ops.size).any fun j => decide (c ≤ j) && depB ops k j
/-- All up to the cut are through. -/
def doneTo (c n : Nat) : Array Bool := ((List.range n).map fun k => decide (k ≤ c)).toArray
theorem countP_range_le (i : Nat) : ∀ n, i ≤ n → (List.range n).countP (fun k => decide (i ≤ k)) = n - i
  | 0, h => by simp
  | n + 1, h => by
    rw [List.range_succ, List.countP_append, List.countP_singleton]
    by_cases hin : i ≤ n
    · rw [countP_range_le i n hin]; simp [hin]; omega
    · have : i = n + 1 := by omega
      subst this
      have h0 : (List.range n).countP (fun k => decide (n + 1 ≤ k)) = 0 := by
        rw [List.countP_eq_zero]
        intro k hk
        have := List.mem_range.1 hk
        simp; omega
      rw [h0]; simp

section
variable {P : Program} {ops : Array Oper} {Q : Exit → Act → World → Prop}

theorem mono_any_cut {a0 : Act} {w0 : World} (Φ : Nat → Value → World → Prop) (hok : monoOk ops a0.tmps.size = true) (last : Nat) (hn : last < ops.size) (hcov : coverB ops last = true) (hlate : lateB ops last = true)
    (hst : ∀ i v w w', Φ i v w → Below w.heap.size w w' → Φ i v w')
    (hop : ∀ i o, i < last → ops[i]? = some o → ∀ a w, Below w0.heap.size w0 w → GoodAct ops Φ a0 i o a w →
      if Region.wanted o (yielded ops a.tmps) = true then o.wp P a w (fun a' w' => ∃ v, a' = a.put o.dst v ∧ Below w.heap.size w w' ∧ Φ i v w') Q else Φ i undef w)
    (hend : ∀ a w, Below w0.heap.size w0 w → (∀ i o d, i < last → ops[i]? = some o → o.dst = some d → Φ i (a.tmps.getD d undef) w) → (∀ t, (∀ j, wr ops t = some j → last ≤ j) → a.tmps.getD t undef = a0.tmps.getD t undef) → a.defers = a0.defers → a.tmps.size = a0.tmps.size → wpOp P ops Q last (fun a' w' => ∀ fuel, ops.size ≤ fuel + last + 1 → wpAny P .any ops Q fuel (doneTo last ops.size) a' w') a w) :
    ∀ (fuel : Nat) (L : Array Bool) (a : Act) (w : World), MonoInv ops Φ a0 w0 L a w → (∀ k, last ≤ k → L.getD k false = false) → (List.range ops.size).countP (fun i => !L.getD i false) ≤ fuel → wpAny P .any ops Q fuel L a w := by
  have hrdy : ∀ (L : Array Bool) (a : Act) (w : World), MonoInv ops Φ a0 w0 L a w → L.getD last false = false → Region.ready .any ops L = [] → False := by
    intro L a w hI hlast hr
    have hall : ∀ n i, i < n → i < ops.size → L.getD i false = true := by
      intro n
      induction n with
      | zero => intro i h; omega
      | succ n ih =>
        intro i h hi
        by_cases hin : i < n
        · exact ih i hin hi
        · have e : i = n := by omega
          subst e
          cases hL : L.getD i false
          · exfalso
            have ho : ops[i]? = some ops[i] := Array.getElem?_eq_getElem hi
            obtain ⟨_, _, h3⟩ := monoOk_spec hok ho
            have : i ∈ Region.ready .any ops L := mem_ready.2 ⟨by
              have hs : i < L.size := by rw [hI.size]; exact hi
              rw [Array.getD_eq_getD_getElem?, Array.getElem?_eq_getElem hs] at hL ⊢
              exact hL, ops[i], ho, fun e he hb => by
              have hd : depB ops i e.on = true := by
                unfold depB
                rw [ho]
                exact Array.any_eq_true'.2 ⟨e, he, by simp [hb]⟩
              have hlt := h3 _ hd
              exact ih e.on hlt (by omega)⟩
            rw [hr] at this
            cases this
          · rfl
    have := hall ops.size last (by omega) (by omega)
    rw [hlast] at this; cases this
  have hcl : ∀ (L : Array Bool) (a : Act) (w : World), MonoInv ops Φ a0 w0 L a w → (∀ j, depB ops last j = true → L.getD j false = true) → ∀ n i, last ≤ i + n → i < last → L.getD i false = true := by
    intro L a w hI hdl n
    induction n with
    | zero => intro i h hi; omega
    | succ n ih =>
      intro i h hi
      unfold coverB at hcov
      have h1 := List.all_eq_true.1 hcov i (List.mem_range.2 hi)
      obtain ⟨k, hk, hd⟩ := List.any_eq_true.1 h1
      have hk' : k < last + 1 := List.mem_range.1 hk
      by_cases hkl : k = last
      · subst hkl; exact hdl i hd
      · have hlt : i < k := by
          unfold depB at hd
          cases hok' : ops[k]? with
          | none => rw [hok'] at hd; cases hd
          | some ok =>
            obtain ⟨_, _, h3⟩ := monoOk_spec hok hok'
            exact h3 i (by unfold depB; exact hd)
        exact hI.closed k (ih k (by omega) (by omega)) i hd
  have hwait : ∀ k, last < k → k < ops.size → ∃ j, last ≤ j ∧ depB ops k j = true := by
    intro k h1 h2
    unfold lateB at hlate
    have := List.all_eq_true.1 hlate k (List.mem_range.2 h2)
    simp only [Bool.or_eq_true, decide_eq_true_eq] at this
    rcases this with h | h
    · omega
    · obtain ⟨j, hj, hd⟩ := List.any_eq_true.1 h
      simp only [Bool.and_eq_true, decide_eq_true_eq] at hd
      exact ⟨j, hd.1, hd.2⟩
  intro fuel
  induction fuel with
  | zero =>
    intro L a w hI hun hc
    have hlast := hun last (Nat.le_refl _)
    have : 0 < (List.range ops.size).countP (fun i => !L.getD i false) := List.countP_pos_iff.2 ⟨last, List.mem_range.2 (by omega), by simp only [hlast]; rfl⟩
    omega
  | succ fuel ih =>
    intro L a w hI hun hc
    have hlast := hun last (Nat.le_refl _)
    refine ⟨fun h => (hrdy L a w hI hlast h).elim, fun i hi => ?_⟩
    obtain ⟨h0, o, ho, hdeps⟩ := mem_ready.1 hi
    have hlt : i < ops.size := (Array.getElem?_eq_some_iff.1 ho).1
    have hls : i < L.size := by rw [hI.size]; exact hlt
    have h0' : L.getD i false = false := by
      rw [Array.getD_eq_getD_getElem?, Array.getElem?_eq_getElem hls] at h0 ⊢
      exact h0
    obtain ⟨hd, hl, hlex⟩ := monoOk_spec hok ho
    have hdl : ∀ j, depB ops i j = true → L.getD j false = true := by
      intro j hj
      unfold depB at hj
      rw [ho] at hj
      obtain ⟨e, he, hb⟩ := Array.any_eq_true'.1 hj
      simp only [Bool.and_eq_true, beq_iff_eq] at hb
      rw [← hb.2]; exact hdeps e he hb.1
    by_cases hil : i = last
    · subst hil
      have hall := hcl L a w hI hdl i
      refine wpOp_mono ?_ (hend a w hI.ext (fun j o' d hj ho' hd' => hI.vals j o' d ho' hd' (hall j (by omega) hj)) (fun t ht => hI.rest t (fun j hj => hun j (ht j hj))) hI.defers hI.tsize)
      intro a' w' hq
      have hL : L.setIfInBounds i true = doneTo i ops.size := by
        apply Array.ext
        · simp [doneTo, hI.size]
        · intro k h1 h2
          have hk : k < ops.size := by simpa [doneTo] using h2
          simp only [doneTo, List.getElem_toArray, List.getElem_map, List.getElem_range]
          have hks : k < L.size := by rw [hI.size]; exact hk
          rw [Array.getElem_setIfInBounds (by exact hks)]
          by_cases hki : i = k
          · simp [hki]
          · rw [if_neg hki]
            have hg : L.getD k false = L[k] := by rw [Array.getD_eq_getD_getElem?, Array.getElem?_eq_getElem hks]; rfl
            by_cases hlt : k < i
            · rw [← hg, hall k (by omega) hlt]
              simp; omega
            · rw [← hg, hun k (by omega)]
              simp; omega
      rw [hL]
      refine hq fuel ?_
      have hcount : (List.range ops.size).countP (fun k => !L.getD k false) = ops.size - i := by
        have : (List.range ops.size).countP (fun k => !L.getD k false) = (List.range ops.size).countP (fun k => decide (i ≤ k)) := by
          apply List.countP_congr
          intro k hk
          have hk' := List.mem_range.1 hk
          by_cases hlt : k < i
          · rw [hall k (by omega) hlt]; simp; omega
          · rw [hun k (by omega)]; simp; omega
        rw [this]
        exact countP_range_le i ops.size (by omega)
      omega
    have hil2 : i < last := by
      rcases Nat.lt_or_ge last i with h | h
      · obtain ⟨j, hj, hd'⟩ := hwait i h hlt
        have := hdl j hd'
        rw [hun j hj] at this
        cases this
      · omega
    have hlt' : i < last := by omega
    have hgood : GoodAct ops Φ a0 i o a w := by
      intro t ht
      cases hw : wr ops t with
      | none => exact hI.rest t (fun j hj => by rw [hw] at hj; cases hj)
      | some j =>
        simp only []
        have hj := List.find?_some hw
        simp only [beq_iff_eq] at hj
        split
        · rename_i hdep
          cases hoj : ops[j]? with
          | none => rw [hoj] at hj; cases hj
          | some oj =>
            rw [hoj] at hj
            exact hI.vals j oj t hoj hj (hdl j hdep)
        · rename_i hdep
          refine hI.rest t (fun j' hj' => ?_)
          rw [hw] at hj'
          cases hj'
          rcases hl t ht j hw with h | h
          · exact absurd h hdep
          · cases hLj : L.getD j false
            · rfl
            · have := hI.closed j hLj i h
              rw [h0'] at this; cases this
    have hstep : ∀ v w', Below w.heap.size w w' → Φ i v w' → MonoInv ops Φ a0 w0 (L.setIfInBounds i true) (a.put o.dst v) w' := by
      intro v w' hb hv
      have hget : ∀ k, (L.setIfInBounds i true).getD k false = true ↔ (k = i ∨ L.getD k false = true) := by
        intro k
        by_cases hk : k = i
        · subst hk
          simp [Array.getD_eq_getD_getElem?, hls]
        · rw [getD_set_ne false (fun e => hk e.symm)]
          simp [hk]
      have hput : ∀ t, (a.put o.dst v).tmps.getD t undef = if o.dst = some t then v else a.tmps.getD t undef := by
        intro t
        cases hdst : o.dst with
        | none => simp [Act.put]
        | some d =>
          simp only [Act.put, Option.some.injEq]
          have hdsz : d < a.tmps.size := by rw [hI.tsize]; exact (hd d hdst).1
          by_cases h : d = t
          · subst h
            simp [Array.getD_eq_getD_getElem?, hdsz]
          · simp [Array.getD_eq_getD_getElem?, h]
      refine ⟨by simp [hI.size], hI.ext.trans (hb.mono hI.ext.size), ?_, ?_, ?_, ?_, ?_⟩
      · intro k hk j hj
        rw [hget] at hk ⊢
        rcases hk with rfl | hk
        · exact .inr (hdl j hj)
        · exact .inr (hI.closed k hk j hj)
      · intro k ok d hok' hdk hk
        rw [hget] at hk
        rw [hput]
        rcases hk with rfl | hk
        · rw [ho] at hok'; cases hok'
          rw [if_pos hdk]; exact hv
        · have hne : o.dst ≠ some d := by
            intro e
            have h1 := (hd d e).2
            have h2 := ((monoOk_spec hok hok').1 d hdk).2
            rw [h1] at h2
            cases h2
            rw [h0'] at hk; cases hk
          rw [if_neg hne]
          exact hst k _ _ _ (hI.vals k ok d hok' hdk hk) hb
      · intro t ht
        rw [hput]
        have hne : o.dst ≠ some t := by
          intro e
          have := ht i (hd t e).2
          have h2 := (hget i).2 (.inl rfl)
          rw [this] at h2; cases h2
        rw [if_neg hne]
        refine hI.rest t (fun j hj => ?_)
        cases hLj : L.getD j false
        · rfl
        · have := ht j hj
          rw [(hget j).2 (.inr hLj)] at this; cases this
      · cases o.dst <;> exact hI.defers
      · rw [← hI.tsize]; cases o.dst <;> simp [Act.put]
    have hcount : (List.range ops.size).countP (fun k => !(L.setIfInBounds i true).getD k false) ≤ fuel := by
      have := countP_lt (l := List.range ops.size) (p := fun k => !L.getD k false) (q := fun k => !(L.setIfInBounds i true).getD k false)
        (fun k _ hk => by
          by_cases hki : k = i
          · subst hki; simp [h0']
          · rw [getD_set_ne false (fun e => hki e.symm)] at hk; exact hk)
        ⟨i, List.mem_range.2 hlt, by simp [h0'], by simp [Array.getD_eq_getD_getElem?, hls]⟩
      omega
    have hun' : ∀ k, last ≤ k → (L.setIfInBounds i true).getD k false = false := fun k hk => by rw [getD_set_ne false (by omega)]; exact hun k hk
    have hg := hop i o hlt' ho a w hI.ext hgood
    unfold wpOp
    rw [ho]
    simp only []
    split at hg
    · rename_i hw
      rw [if_pos hw]
      refine .inl (Oper.wp_mono ?_ hg)
      rintro a' w' ⟨v, rfl, hb, hv⟩
      exact ih _ _ _ (hstep v w' hb hv) hun' hcount
    · rename_i hw
      rw [if_neg hw]
      exact ih _ _ _ (hstep undef w (Below.refl _ _) hg) hun' hcount


/-- The same where an operation may write whatever lies there: all ahead of it are through by then, and all behind it wait for it. -/
theorem wp_region_cut {id : Nat} {a0 : Act} {w0 : World} (hm : P.follows .mixedOrders = true) (L : List (Value → World → Prop)) (plan : List (List (Tmp × Option Nat))) (D : List (Option Tmp)) (M : List Bool) (last : Nat) (ol : Oper) (hol : ops[last]? = some ol) 
    (hn : last < ops.size) (hcov : coverB ops last = true) (hlate : lateB ops last = true)
    (hok : monoOk ops a0.tmps.size = true) (hplan : planOf ops = plan) (hD : dstsOf ops = D) (hM : maskOf ops a0.tmps.size = M) (hst : AllStable L) (hop : MonoOps P ops Q L a0 w0 (ops.toList.take last) plan L)
    (hwant : ∀ f w, AllWords f w (D.take last) L → Region.wanted ol (yielded ops (mergeT M a0.tmps.toList 0 f).toArray) = true)
    (hend : ∀ f w, Below w0.heap.size w0 w → AllWords f w (D.take last) L → ol.wp P { tmps := (mergeT M a0.tmps.toList 0 f).toArray, defers := a0.defers } w (fun a' w' => ∀ fuel, ops.size ≤ fuel + last + 1 → wpAny P .any ops Q fuel (doneTo last ops.size) a' w') Q) :
    (Code.region id ops true).wp P Q a0 w0 := by
  refine wp_region_any hm (mono_any_cut (w0 := w0) (fun i => L.getD i (fun _ _ => True)) hok last hn hcov hlate (fun i => allStable_get hst i) ?_ ?_ ops.size _ a0 _ ⟨by simp, (Below.refl _ _).drew, ?_, ?_, fun _ _ => rfl, rfl, rfl⟩ ?_ ?_)
  · intro i o hil ho a w hb hg
    have hlt : i < ops.size := (Array.getElem?_eq_some_iff.1 ho).1
    have hpl : plan[i]? = some ((o.looksAt ops).map fun t => (t, match wr ops t with
          | some j => if depB ops i j = true then some j else none
          | none => none)) := by
      rw [← hplan]
      unfold planOf
      rw [List.getElem?_map, List.getElem?_range hlt, Option.map_some, ho]
      rfl
    exact monoOps_get hop i o _ (by rw [List.getElem?_take, if_pos hil]; simpa using ho) hpl a w hb (planFacts_of rfl (o := o) _ hg)
  · intro a w hb hv hr hd hs
    have hwd : AllWords (fun t => a.tmps.getD t undef) w (D.take last) L := by
      rw [← hD, dstsOf, ← List.map_take]
      exact allWords_of (fun i o d ho hdd => by
        rw [List.getElem?_take] at ho
        split at ho
        · rename_i hil
          exact hv i o d hil (by simpa using ho) hdd
        · cases ho)
    have h := hend (fun t => a.tmps.getD t undef) w hb hwd
    have hw := hwant (fun t => a.tmps.getD t undef) w hwd
    have e : mergeT M a0.tmps.toList 0 (fun t => a.tmps.getD t undef) = a.tmps.toList := by
      refine mergeT_eq _ _ _ _ _ (by rw [← hM]; simp [maskOf]) (by simpa using hs) ?_ ?_
      · intro j hj _
        simp [Array.getD_eq_getD_getElem?, List.getD_eq_getElem?_getD]
      · intro j hj hb
        rw [← hM] at hb
        have hj' : j < a0.tmps.size := by rw [← hs]; simpa using hj
        have hw : wr ops j = none := by
          unfold maskOf at hb
          simp [List.getD_eq_getElem?_getD, List.getElem?_map, List.getElem?_range hj'] at hb
          exact hb
        have := hr j (fun k hk => by rw [hw] at hk; cases hk)
        simpa [Array.getD_eq_getD_getElem?, List.getD_eq_getElem?_getD] using this
    rw [e, ← hd] at h
    unfold wpOp
    rw [hol]
    simp only []
    rw [e] at hw
    rw [if_pos (by simpa using hw)]
    exact .inl h
  · intro k hk
    simp [Array.getD_eq_getD_getElem?] at hk
    rcases h : (Array.replicate ops.size false)[k]? with _ | b <;> simp [h] at hk
    subst hk
    obtain ⟨h1, h2⟩ := Array.getElem?_eq_some_iff.1 h
    simp at h2
  · intro i o d ho hd hk
    exfalso
    simp [Array.getD_eq_getD_getElem?] at hk
    rcases h : (Array.replicate ops.size false)[i]? with _ | b <;> simp [h] at hk
    subst hk
    obtain ⟨h1, h2⟩ := Array.getElem?_eq_some_iff.1 h
    simp at h2
  · intro k _
    rw [Array.getD_eq_getD_getElem?]
    by_cases hk : k < ops.size
    · simp [hk]
    · simp [hk]
  · exact Nat.le_trans List.countP_le_length (by simp)
/-- Behind the cut: one operation whose turn it is. -/
theorem wpAny_one {L : Array Bool} {i f : Nat} {o : Oper} {a : Act} {w : World} (hr : Region.ready .any ops L = [i]) (ho : ops[i]? = some o) (hw : Region.wanted o (yielded ops a.tmps) = true)
    (h : o.wp P a w (fun a' w' => wpAny P .any ops Q f (L.setIfInBounds i true) a' w') Q) : wpAny P .any ops Q (f + 1) L a w := by
  refine ⟨fun h0 => (by rw [hr] at h0; cases h0), fun j hj => ?_⟩
  rw [hr, List.mem_singleton] at hj
  subst hj
  unfold wpOp
  rw [ho]
  simp only []
  rw [if_pos (by simpa using hw)]
  exact .inl h
theorem wpAny_end {L : Array Bool} {f : Nat} {a : Act} {w : World} (hr : Region.ready .any ops L = []) (h : Q .normal a w) : wpAny P .any ops Q f L a w := wpAny_done hr h _
end
end Go.Proofs.YtamafdcnbcoegaaGreat
namespace Go.Proofs.YtamafdcnbcoegaaGreat
open Go.RowKit

/-- Frames that came out: a new list of new lists, apart from each other and from U. -/
structure FramesOut (B : Nat) (w : World) (lv : Value) (fs : List Value) (Fl : List ByteArray) (U : Nat → Prop) : Prop where
  len : fs.length = Fl.length
  row : w.ownsRow B 44 1 lv fs.length fs
  each : ∀ (j : Nat) (v : Value), fs[j]? = some v → w.ownsRow B 5 1 v ((Fl.map fun b => b.data.toList).getD j []).length (bv ((Fl.map fun b => b.data.toList).getD j []))
  apart : ∀ (i j : Nat) (u v : Value), fs[i]? = some u → fs[j]? = some v → i ≠ j → ∀ g, u.ownBlock = some g → v.ownBlock ≠ some g
  clear : ∀ k, (lv.ownBlock = some k ∨ Done fs fs.length k) → ¬ U k
end Go.Proofs.YtamafdcnbcoegaaGreat
namespace Go.Proofs.YtamafdcnbcoegaaGreat
open Go.RowKit

/-- What is so of an agent behind at most N steps. -/
structure AgGood (N : Nat) (a : Mod.Ag) : Prop where
  ep : a.epoch ≤ 2147483647
  tk : a.ticks ≤ N
  sum : ∀ s, s < 3 → (a.fl s).base + (a.fl s).kept.length ≤ N
  bod : ∀ s, s < 3 → ∀ x ∈ (a.fl s).kept, x.1.size ≤ 20 ∧ x.2 ≤ N
theorem AgGood.mono {N M : Nat} {a : Mod.Ag} (G : AgGood N a) (h : N ≤ M) : AgGood M a :=
  ⟨G.ep, Nat.le_trans G.tk h, fun s hs => Nat.le_trans (G.sum s hs) h, fun s hs x hx => ⟨(G.bod s hs x hx).1, Nat.le_trans (G.bod s hs x hx).2 h⟩⟩
theorem agGood_submit {N : Nat} {a : Mod.Ag} (G : AgGood N a) (s : Nat) (b : ByteArray) (hb : b.size ≤ 20) : AgGood (N + 1) (a.submit s b) := by
  refine ⟨G.ep, Nat.le_succ_of_le G.tk, fun t ht => ?_, fun t ht x hx => ?_⟩
  · have := G.sum t ht
    unfold Mod.Ag.submit Mod.upd
    simp only
    split
    · rename_i e
      subst e
      simp; omega
    · omega
  · unfold Mod.Ag.submit Mod.upd at hx
    simp only at hx
    split at hx
    · rename_i e
      subst e
      rw [List.mem_append, List.mem_singleton] at hx
      rcases hx with hx | rfl
      · exact ⟨(G.bod t ht x hx).1, Nat.le_succ_of_le (G.bod t ht x hx).2⟩
      · exact ⟨hb, Nat.zero_le _⟩
    · exact ⟨(G.bod t ht x hx).1, Nat.le_succ_of_le (G.bod t ht x hx).2⟩
theorem sendTo_mem (epoch s : Nat) (f : Mod.Flow) (ticks : Nat) : ∀ i, ∀ y ∈ (Mod.sendTo epoch s f ticks i).1, ∃ x ∈ f.kept, y.1 = x.1 ∧ (y.2 = x.2 ∨ y.2 = ticks)
  | 0 => fun y hy => ⟨y, hy, rfl, .inl rfl⟩
  | i + 1 => by
    intro y hy
    have ih := sendTo_mem epoch s f ticks i
    rw [Mod.sendTo] at hy
    split at hy
    · exact ih y hy
    · rename_i x hx
      split at hy
      · rcases List.mem_or_eq_of_mem_set hy with hy | rfl
        · exact ih y hy
        · exact ⟨x, List.mem_of_getElem? hx, rfl, .inr rfl⟩
      · exact ih y hy
theorem agGood_tick {N : Nat} {a : Mod.Ag} (G : AgGood N a) : AgGood (N + 1) a.tick.1 := by
  have h0 : AgGood (N + 1) { a with ticks := a.ticks + 1 } := ⟨G.ep, Nat.succ_le_succ G.tk, fun s hs => Nat.le_succ_of_le (G.sum s hs), fun s hs x hx => ⟨(G.bod s hs x hx).1, Nat.le_succ_of_le (G.bod s hs x hx).2⟩⟩
  unfold Mod.Ag.tick
  split
  · exact h0
  · split
    · exact h0
    · refine ⟨G.ep, Nat.succ_le_succ G.tk, fun s hs => ?_, fun s hs y hy => ?_⟩
      · have := G.sum s hs
        simp only [Mod.sendFl, if_pos hs, sendTo_len]
        omega
      · simp only [Mod.sendFl, if_pos hs] at hy
        obtain ⟨x, hx, h1, h2⟩ := sendTo_mem _ _ _ _ _ y hy
        have h3 := G.bod s hs x hx
        refine ⟨h1 ▸ h3.1, ?_⟩
        have := G.tk
        rcases h2 with h2 | h2
        · omega
        · omega
theorem agGood_drop {N : Nat} {a : Mod.Ag} (G : AgGood N a) (n : Nat → Nat) (hn : ∀ s, s < 3 → n s ≤ (a.fl s).kept.length) : AgGood N (a.drop n) := by
  refine ⟨G.ep, G.tk, fun s hs => ?_, fun s hs x hx => ?_⟩
  · have := G.sum s hs
    have := hn s hs
    simp only [Mod.Ag.drop, Mod.dropTo, if_pos hs, Mod.Flow.drop, List.length_drop]
    omega
  · simp only [Mod.Ag.drop, Mod.dropTo, if_pos hs, Mod.Flow.drop] at hx
    exact G.bod s hs x (List.mem_of_mem_drop hx)
theorem agGood_deliver {N : Nat} {a : Mod.Ag} (G : AgGood N a) (k e st q : Int) (b : ByteArray) : AgGood N (a.deliver k e st q b) := by
  have GD := agGood_drop G (a.says k e st q b) (fun s _ => says_le a k e st q b s)
  unfold Mod.Ag.deliver
  split
  · exact ⟨G.ep, G.tk, G.sum, G.bod⟩
  · split
    · exact G
    · split
      · exact ⟨G.ep, G.tk, G.sum, G.bod⟩
      · split
        · refine ⟨GD.ep, GD.tk, fun s hs => ?_, fun s hs x hx => ?_⟩
          · have := GD.sum s hs
            simp only [Mod.fresh, if_pos hs, List.length_map]
            exact this
          · simp only [Mod.fresh, if_pos hs] at hx
            obtain ⟨y, hy, rfl⟩ := List.mem_map.1 hx
            exact ⟨(GD.bod s hs y hy).1, Nat.zero_le _⟩
        · split
          · split
            · exact G
            · refine ⟨GD.ep, GD.tk, fun s hs => ?_, fun s hs x hx => ?_⟩
              · have := GD.sum s hs
                simp only [Mod.upd]
                split
                · rename_i e'
                  subst e'
                  exact this
                · exact this
              · simp only [Mod.upd] at hx
                split at hx
                · rename_i e'
                  subst e'
                  exact GD.bod _ hs x hx
                · exact GD.bod s hs x hx
          · exact G

/-- The document's Tick, in one word. -/
theorem refTick_any {w : World} {p N : Nat} {a : Mod.Ag} {r : RRest} {kv hv : Nat → Value} (R : RefAt w p a r kv hv) (hd : r.dead = false) (G : AgGood N a) (hN : N + 1 ≤ 2147483647) :
    Calls Tryz.prog 119 #[.pointer (some ⟨p, 0, none⟩)] w fun x w' => ∃ v n, x = .returned v ∧ w'.ownsRow w.heap.size 9 1 v n (txts a.tick.2) ∧ RefStep w w' p a.tick.1 r kv hv := by
  have ht : a.ticks + 1 ≤ 1000000000000000 := by have := G.tk; omega
  unfold Mod.Ag.tick
  cases hf : a.fenced
  · cases hwl : a.welcome
    · refine (refTick_hello R hd hf hwl G.ep ht).mono ?_
      rintro x w' ⟨v, rfl, h1, h2⟩
      exact ⟨v, _, rfl, h1, by simpa [hf, hwl] using h2⟩
    · refine (refTick_send R hd hf hwl G.ep ht (fun s hs => by have := G.sum s hs; omega) (fun s hs x hx => ⟨(G.bod s hs x hx).1, by have := (G.bod s hs x hx).2; omega⟩)).mono ?_
      rintro x w' ⟨v, n, rfl, h1, h2⟩
      exact ⟨v, n, rfl, h1, by simpa [hf, hwl] using h2⟩
  · refine (refTick_fenced R hd hf ht).mono ?_
    rintro x w' ⟨rfl, h2⟩
    exact ⟨_, 0, rfl, World.ownsRow_nil _ _ _ _, by simpa [hf] using h2⟩
end Go.Proofs.YtamafdcnbcoegaaGreat
