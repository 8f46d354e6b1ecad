/-
  Part 8 of a proof: L3, L4, L5, L6, L7, K8.
-/
import Derived.Test.YtamafdcnbcoegaaGreatFu7
namespace Go.Proofs.YtamafdcnbcoegaaGreat
open Go.RowKit
section
variable {a : Mod.Ag} {op : Nat} {g : Nat → Nat} {free : List Nat} {sh : Nat → List (Nat × Value)} {pl : Nat → List Nat}

theorem sentF_snoc (f : Mod.Flow) (s : ByteArray) (n : Nat) : sentF { f with kept := f.kept ++ [(s, 0)] } n = sentF f n := by
  unfold sentF
  simp only
  split
  · rfl
  · by_cases h : n - f.base - 1 < f.kept.length
    · rw [List.getElem?_append_left h]
    · rw [List.getElem?_append_right (by omega)]
      have h2 : f.kept[n - f.base - 1]? = none := List.getElem?_eq_none (by omega)
      rw [h2]
      by_cases h3 : n - f.base - 1 - f.kept.length = 0
      · rw [h3]; rfl
      · have : ([(s, 0)] : List (ByteArray × Nat))[n - f.base - 1 - f.kept.length]? = none := List.getElem?_eq_none (by simp; omega)
        rw [this]
theorem perm_pl {i : Nat} (hi : i < 3) (p' : List Nat) (fr : List Nat) (h : (fr ++ p').Perm (free ++ pl i)) :
    (fr ++ (fun t => if t = i then p' else pl t) 0 ++ (fun t => if t = i then p' else pl t) 1 ++ (fun t => if t = i then p' else pl t) 2).Perm (free ++ pl 0 ++ pl 1 ++ pl 2) := by
  obtain rfl | rfl | rfl : i = 0 ∨ i = 1 ∨ i = 2 := by omega
  · simp only [if_pos, if_neg (show ¬ (1 : Nat) = 0 by omega), if_neg (show ¬ (2 : Nat) = 0 by omega)]
    exact (h.append_right _).append_right _
  · simp only [if_neg (show ¬ (0 : Nat) = 1 by omega), if_pos, if_neg (show ¬ (2 : Nat) = 1 by omega)]
    refine List.Perm.append_right _ ?_
    have h1 : (fr ++ pl 0 ++ p').Perm (fr ++ p' ++ pl 0) := by
      rw [List.append_assoc, List.append_assoc]
      exact List.perm_append_comm.append_left _
    have h2 : (free ++ pl 1 ++ pl 0).Perm (free ++ pl 0 ++ pl 1) := by
      rw [List.append_assoc, List.append_assoc]
      exact List.perm_append_comm.append_left _
    exact (h1.trans (h.append_right _)).trans h2
  · simp only [if_neg (show ¬ (0 : Nat) = 2 by omega), if_neg (show ¬ (1 : Nat) = 2 by omega), if_pos]
    have h1 : (fr ++ pl 0 ++ pl 1 ++ p').Perm (fr ++ p' ++ (pl 0 ++ pl 1)) := by
      rw [List.append_assoc fr, List.append_assoc, List.append_assoc fr p']
      exact List.perm_append_comm.append_left _
    have h2 : (free ++ pl 2 ++ (pl 0 ++ pl 1)).Perm (free ++ pl 0 ++ pl 1 ++ pl 2) := by
      rw [List.append_assoc free (pl 0), List.append_assoc, List.append_assoc]
      exact List.perm_append_comm.append_left _
    exact (h1.trans (h.append_right _)).trans h2
theorem room_upd {i : Nat} (hi : i < 3) (f : Mod.Flow) : (Mod.Ag.room { a with fl := Mod.upd a.fl i f }) + (a.fl i).kept.length = a.room + f.kept.length := by
  obtain rfl | rfl | rfl : i = 0 ∨ i = 1 ∨ i = 2 := by omega
  all_goals
    simp [Mod.Ag.room, Mod.upd]
    omega
/-- A record is taken: it lies at a place that was free. -/
theorem onAg_submit {fr : List Nat} {q : Nat} (O : OnAg a op g (fr ++ [q]) sh pl) {i : Nat} (hi : i < 3) (s : ByteArray) :
    OnAg (a.submit i s) op g fr (fun t => if t = i * 3 then putL (sh (i * 3)) ((a.fl i).base + (a.fl i).kept.length + 1) (recA s q) else sh t) (fun t => if t = i then pl i ++ [q] else pl t) := by
  have hfl : ∀ j, (a.submit i s).fl j = if j = i then { a.fl i with kept := (a.fl i).kept ++ [(s, 0)] } else a.fl j := fun j => rfl
  refine ⟨O.ep, fun j hj => ?_, fun j hj => ?_, fun j hj => ?_, fun j hj n => ?_, fun j hj => ?_, fun j hj n => ?_, fun j hj => ?_, fun j hj => ?_, ?_, ?_, ?_⟩
  · rw [hfl]
    by_cases e : j = i
    · subst e; rw [if_pos rfl]; exact O.bs j hj
    · rw [if_neg e]; exact O.bs j hj
  · rw [hfl]
    show (if j = i then pl i ++ [q] else pl j).length = _
    by_cases e : j = i
    · subst e; rw [if_pos rfl, if_pos rfl]; simp [O.pn j hj]
    · rw [if_neg e, if_neg e]; exact O.pn j hj
  · rw [hfl]
    show (if j * 3 = i * 3 then _ else sh (j * 3)) = keptL _ _ (if j = i then pl i ++ [q] else pl j)
    by_cases e : j = i
    · subst e
      rw [if_pos rfl, if_pos rfl, if_pos rfl, O.kp j hj]
      exact keptL_put _ _ _ (O.pn j hj) s 0 q
    · rw [if_neg (by omega), if_neg e, if_neg e]; exact O.kp j hj
  · show look (if j * 3 + 1 = i * 3 then _ else sh (j * 3 + 1)) _ = _
    rw [if_neg (by omega), hfl, O.sn j hj n]
    by_cases e : j = i
    · subst e; rw [if_pos rfl, sentF_snoc]
    · rw [if_neg e]
  · show AreI (if j * 3 + 1 = i * 3 then _ else sh (j * 3 + 1))
    rw [if_neg (by omega)]; exact O.si j hj
  · show (look (if j * 3 + 2 = i * 3 then _ else sh (j * 3 + 2)) _).isSome = _
    rw [if_neg (by omega), hfl, O.hd j hj n]
    by_cases e : j = i
    · subst e; rw [if_pos rfl]
    · rw [if_neg e]
  · show AreU (if j * 3 + 2 = i * 3 then _ else sh (j * 3 + 2))
    rw [if_neg (by omega)]; exact O.hu j hj
  · show (if j * 3 + 2 = i * 3 then _ else sh (j * 3 + 2)).length ≤ 3
    rw [if_neg (by omega)]; exact O.hl j hj
  · refine (perm_pl hi (pl i ++ [q]) fr ?_).nodup_iff.2 O.nd
    rw [List.append_assoc fr [q]]
    exact List.perm_append_comm.append_left _
  · intro x hx
    refine O.lt x ((perm_pl hi (pl i ++ [q]) fr ?_).mem_iff.1 hx)
    rw [List.append_assoc fr [q]]
    exact List.perm_append_comm.append_left _
  · have h1 := O.sum
    obtain ⟨f2, hf2⟩ : ∃ f2, f2 = ({ a.fl i with kept := (a.fl i).kept ++ [(s, 0)] } : Mod.Flow) := ⟨_, rfl⟩
    have hk : f2.kept.length = (a.fl i).kept.length + 1 := by rw [hf2]; simp
    have h3 : (a.submit i s).room = Mod.Ag.room { a with fl := Mod.upd a.fl i f2 } := by rw [hf2]; rfl
    have h2 := room_upd (a := a) hi f2
    rw [hk] at h2
    rw [h3]
    rw [List.length_append, List.length_singleton] at h1
    omega
theorem look_dropcut {l : List (Nat × Value)} (hs : (l.map (·.1)).Pairwise (· < ·)) (m n : Nat) : look (l.drop (cutAt l m)) (n : Int) = if n ≤ m then none else look l (n : Int) := by
  obtain ⟨h1, h2⟩ := cut_split (n := m) hs
  have hsplit : ∀ (l1 l2 : List (Nat × Value)) (k : Int), look (l1 ++ l2) k = match look l1 k with | some v => some v | none => look l2 k := by
    intro l1 l2 k
    induction l1 with
    | nil => rfl
    | cons x r ih =>
      show look (x :: (r ++ l2)) k = _
      rw [look_cons, look_cons]
      by_cases h : k = (x.1 : Int)
      · rw [if_pos h, if_pos h]
      · rw [if_neg h, if_neg h, ih]
  have hl : l = l.take (cutAt l m) ++ l.drop (cutAt l m) := (List.take_append_drop _ _).symm
  by_cases hn : n ≤ m
  · rw [if_pos hn]
    cases hv : look (l.drop (cutAt l m)) (n : Int) with
    | none => rfl
    | some v =>
      obtain ⟨x, hx, e, _⟩ := look_mem hv
      have := h2 x hx
      omega
  · rw [if_neg hn]
    conv => rhs; rw [hl]
    rw [hsplit]
    cases hv : look (l.take (cutAt l m)) (n : Int) with
    | none => rfl
    | some v =>
      obtain ⟨x, hx, e, _⟩ := look_mem hv
      have := h1 x hx
      omega
theorem sentF_drop (f : Mod.Flow) (m n : Nat) : sentF (f.drop m) n = if n ≤ f.base + m then none else sentF f n := by
  unfold sentF Mod.Flow.drop
  simp only
  by_cases h : n ≤ f.base + m
  · rw [if_pos h, if_pos h]
  · rw [if_neg h, if_neg h, if_neg (by omega), List.getElem?_drop, show m + (n - (f.base + m) - 1) = n - f.base - 1 by omega]
/-- Of a stream the first records are no longer kept: their places are free. -/
theorem onAg_drop1 (O : OnAg a op g free sh pl) {i n : Nat} (hi : i < 3) (hn : n ≤ (a.fl i).kept.length) (hs : ((sh (i * 3 + 1)).map (·.1)).Pairwise (· < ·)) :
    OnAg { a with fl := Mod.upd a.fl i ((a.fl i).drop n) } op (fun t => (Mod.upd a.fl i ((a.fl i).drop n) t).base) (free ++ (pl i).take n)
      (fun t => if t = i * 3 + 1 then (sh (i * 3 + 1)).drop (cutAt (sh (i * 3 + 1)) ((a.fl i).base + n)) else (fun t => if t = i * 3 then (sh (i * 3)).drop (cutAt (sh (i * 3)) ((a.fl i).base + n)) else sh t) t) (fun t => if t = i then (pl i).drop n else pl t) := by
  have hfl : ∀ j, Mod.upd a.fl i ((a.fl i).drop n) j = if j = i then (a.fl i).drop n else a.fl j := fun j => rfl
  refine ⟨O.ep, fun j hj => rfl, fun j hj => ?_, fun j hj => ?_, fun j hj m => ?_, fun j hj => ?_, fun j hj m => ?_, fun j hj => ?_, fun j hj => ?_, ?_, ?_, ?_⟩
  · show (if j = i then (pl i).drop n else pl j).length = (Mod.upd a.fl i ((a.fl i).drop n) j).kept.length
    rw [hfl]
    by_cases e : j = i
    · subst e; rw [if_pos rfl, if_pos rfl]; simp [Mod.Flow.drop, O.pn j hj]
    · rw [if_neg e, if_neg e]; exact O.pn j hj
  · show (if j * 3 = i * 3 + 1 then _ else if j * 3 = i * 3 then _ else sh (j * 3)) = keptL (Mod.upd a.fl i ((a.fl i).drop n) j).base (Mod.upd a.fl i ((a.fl i).drop n) j).kept (if j = i then (pl i).drop n else pl j)
    rw [hfl, if_neg (by omega)]
    by_cases e : j = i
    · subst e
      rw [if_pos rfl, if_pos rfl, if_pos rfl, O.kp j hj, keptL_cut n _ _ _ hn (O.pn j hj)]
      exact keptL_drop n _ _ _ hn (O.pn j hj)
    · rw [if_neg (by omega), if_neg e, if_neg e]; exact O.kp j hj
  · show look (if j * 3 + 1 = i * 3 + 1 then _ else if j * 3 + 1 = i * 3 then _ else sh (j * 3 + 1)) _ = sentF (Mod.upd a.fl i ((a.fl i).drop n) j) m
    rw [hfl]
    by_cases e : j = i
    · subst e
      rw [if_pos rfl, if_pos rfl, look_dropcut hs, sentF_drop, O.sn j hj m]
    · rw [if_neg (by omega), if_neg (by omega), if_neg e]; exact O.sn j hj m
  · show AreI (if j * 3 + 1 = i * 3 + 1 then _ else if j * 3 + 1 = i * 3 then _ else sh (j * 3 + 1))
    by_cases e : j = i
    · subst e
      rw [if_pos rfl]
      exact fun x hx => O.si j hj x (List.mem_of_mem_drop hx)
    · rw [if_neg (by omega), if_neg (by omega)]; exact O.si j hj
  · show (look (if j * 3 + 2 = i * 3 + 1 then _ else if j * 3 + 2 = i * 3 then _ else sh (j * 3 + 2)) _).isSome = (Mod.upd a.fl i ((a.fl i).drop n) j).held.contains m
    rw [hfl, if_neg (by omega), if_neg (by omega), O.hd j hj m]
    by_cases e : j = i
    · subst e; rw [if_pos rfl]; rfl
    · rw [if_neg e]
  · show AreU (if j * 3 + 2 = i * 3 + 1 then _ else if j * 3 + 2 = i * 3 then _ else sh (j * 3 + 2))
    rw [if_neg (by omega), if_neg (by omega)]; exact O.hu j hj
  · show (if j * 3 + 2 = i * 3 + 1 then _ else if j * 3 + 2 = i * 3 then _ else sh (j * 3 + 2)).length ≤ 3
    rw [if_neg (by omega), if_neg (by omega)]; exact O.hl j hj
  · refine (perm_pl hi ((pl i).drop n) (free ++ (pl i).take n) ?_).nodup_iff.2 O.nd
    rw [List.append_assoc, List.take_append_drop]
  · intro x hx
    refine O.lt x ((perm_pl hi ((pl i).drop n) (free ++ (pl i).take n) ?_).mem_iff.1 hx)
    rw [List.append_assoc, List.take_append_drop]
  · have h1 := O.sum
    have h2 := room_upd (a := a) hi ((a.fl i).drop n)
    have h3 := O.pn i hi
    have h4 : ((a.fl i).drop n).kept.length = (a.fl i).kept.length - n := by simp [Mod.Flow.drop]
    rw [h4] at h2
    rw [List.length_append, List.length_take]
    omega
end
end Go.Proofs.YtamafdcnbcoegaaGreat
namespace Go.Proofs.YtamafdcnbcoegaaGreat
open Go.RowKit

/-- Behind a call that may change an agent: what it is then. -/
def AgIs (w x : World) (p : Nat) (a : Mod.Ag) (c : Av) : Prop :=
  ∃ g free sh pl st, PaStep w x p g a.ticks a.welcome a.fenced free sh st c ∧ Sound st ∧ OnAg a st.opening g free sh pl
theorem AgIs.behind {w x y : World} {p : Nat} {a : Mod.Ag} {c : Av} (h : AgIs x y p a c) (hb : Below w.heap.size w x) : AgIs w y p a c := by
  obtain ⟨g, free, sh, pl, st, hk, hs, ho⟩ := h
  exact ⟨g, free, sh, pl, st, hk.behind hb, hs, ho⟩
theorem AgIs.below {w x y : World} {p : Nat} {a : Mod.Ag} {c : Av} (h : AgIs w x p a c) (hb : Below x.heap.size x y) : AgIs w y p a c := by
  obtain ⟨g, free, sh, pl, st, hk, hs, ho⟩ := h
  exact ⟨g, free, sh, pl, st, hk.below hb, hs, ho⟩
section
variable {w : World} {p : Nat} {g : Nat → Nat} {tk : Nat} {wel fen : Bool} {free : List Nat} {sh : Nat → List (Nat × Value)} {st : Mod.Stv} {c : Av} {a : Mod.Ag} {op : Nat} {go : Nat → Nat} {pl : Nat → List Nat}
theorem agIs_refl (H : PaAt w p g a.ticks a.welcome a.fenced free sh st c) (hs : Sound st) (O : OnAg a st.opening g free sh pl) : AgIs w w p a c := ⟨g, free, sh, pl, st, paStep_refl H, hs, O⟩
theorem agEpoch_any (H : PaAt w p g tk wel fen free sh st c) :
    Calls Tryz.prog 66 #[ptrTo p] w fun r w' => r = .returned (.int .i64 st.opening) ∧ w' = w := by
  have c0 : w.cell? ⟨p, 0, none⟩ = some (ptrTo c.s) := by rw [blk_cell H.ks.blk, H.ks.a0]
  have HO := hide (storeOpening_any H.stt)
  clear H
  unfold ptrTo at *
  go_enter Tryz.func66, Tryz.ntmps66
  go_wp2_with (go_at_call 111; refine (unhide HO).mono ?_; rintro r y ⟨rfl, rfl⟩)
  go_ret
  exact ⟨rfl, rfl⟩
theorem agLast_any (H : PaAt w p g tk wel fen free sh st c) (O : OnAg a op go free sh pl) {i : Nat} (hi : i < 3) (hg : g i = (a.fl i).base) :
    Calls Tryz.prog 88 #[ptrTo p, .int .i64 i] w fun r w' => r = .returned (.int .i64 ((a.fl i).base + (a.fl i).kept.length : Nat)) ∧ ∃ n, w' = w.drewN n := by
  have hL := lastA_any H.ks.blk (H.ks.an (i * 3) (by omega)) (H.ks.shs (i * 3) (by omega))
  rw [O.kp i hi, show 4 + i * 3 * 2 = 4 + i * 6 by omega] at hL
  have hm := keptL_last (a.fl i).base (a.fl i).kept (pl i) (O.pn i hi)
  obtain ⟨m, fb, hm, hL⟩ : ∃ (m : Nat) (fb : Bool), max m (a.fl i).base = (a.fl i).base + (a.fl i).kept.length ∧ Calls Tryz.prog 129 #[.pointer (some ⟨p, 4 + i * 6, none⟩)] w fun e w' => e = .returned (.tuple #[.int .i64 m, .bool fb]) ∧ ∃ n, w' = w.drewN n := by
    cases hq : (keptL (a.fl i).base (a.fl i).kept (pl i)).getLast? with
    | none => rw [hq] at hL hm; exact ⟨0, false, hm, hL⟩
    | some x => rw [hq] at hL hm; exact ⟨x.1, true, hm, hL⟩
  have cg : w.cell? ⟨p, 1 + i, none⟩ = some (.int .i64 (g i)) := by rw [blk_cell H.ks.blk, H.ks.ag i hi]
  rw [hg] at cg
  obtain ⟨n, hn⟩ : ∃ n, n = (a.fl i).base + (a.fl i).kept.length := ⟨_, rfl⟩
  rw [← hn] at hm ⊢
  obtain ⟨b, hb⟩ : ∃ b, b = (a.fl i).base := ⟨_, rfl⟩
  rw [← hb] at hm cg
  have hmI : max (m : Int) (b : Int) = (n : Int) := by omega
  have HL := hide hL
  have hi0 : (0 : Int) ≤ (i : Int) := by omega
  have hi3 : (i : Int) < 3 := by omega
  clear H O hL hn hb hm hg
  unfold ptrTo
  go_enter Tryz.func88, Tryz.ntmps88
  go_wp2_with (go_at_call 129; refine (unhide HL).mono ?_; rintro r y ⟨rfl, q, rfl⟩)
  go_ret
  exact ⟨by first | rfl | simp [hmI], q, rfl⟩
set_option maxHeartbeats 1000000 in
theorem isDue_any (H : PaAt w p g tk wel fen free sh st c) (O : OnAg a op go free sh pl) {i : Nat} (hi : i < 3) (j : Nat) (hj : j < (a.fl i).kept.length) (tick t : Nat) (ht : (a.fl i).kept[j].2 = t) (htk : t ≤ 1000000000000) (htm : tick ≤ 1000000000000) :
    Calls Tryz.prog 138 #[.pointer (some ⟨p, 4 + i * 6, none⟩), .int .i64 ((a.fl i).base + 1 + j : Nat), .int .i64 tick] w fun r w' => r = .returned (.bool (Mod.due (a.fl i) tick j t)) ∧ Below w.heap.size w w' := by
  obtain ⟨n, hn⟩ : ∃ n, n = (a.fl i).base + 1 + j := ⟨_, rfl⟩
  have hH := hasU_any H.ks.blk (H.ks.am (i * 3 + 2) (by omega)) (H.ks.shs (i * 3 + 2) (by omega)) (O.hu i hi) (n : Int)
  rw [O.hd i hi n, show 4 + (i * 3 + 2) * 2 = 4 + i * 6 + 4 by omega] at hH
  have hG := fun y (hy : Below w.heap.size w y) => getI_any (H.below hy).ks.blk (H.ks.am (i * 3 + 1) (by omega)) ((H.below hy).ks.shs (i * 3 + 1) (by omega)) (O.si i hi) (n : Int)
  have hsn : sentF (a.fl i) n = if t = 0 then none else some (recI t) := by
    unfold sentF
    rw [if_neg (by omega), show n - (a.fl i).base - 1 = j by omega, List.getElem?_eq_getElem hj]
    simp only [ht]
  rw [O.sn i hi n, hsn, show 4 + (i * 3 + 1) * 2 = 4 + i * 6 + 2 by omega] at hG
  have hdue : Mod.due (a.fl i) tick j t = (!((a.fl i).held.contains n) && (t == 0 || decide (t + 4 ≤ tick))) := by unfold Mod.due; rw [← hn]
  rw [hdue, ← hn]
  obtain ⟨hc, hhc⟩ : ∃ hc, hc = (a.fl i).held.contains n := ⟨_, rfl⟩
  rw [← hhc] at hH ⊢
  have HH := hide hH
  have HG := fun y hy => hide (hG y hy)
  clear H O hH hG hsn hdue hhc ht hn
  cases hc
  · by_cases h0 : t = 0
    · simp only [h0, if_true, Option.getD_none, Option.isSome_none, zeroI] at HG
      go_enter Tryz.func138, Tryz.ntmps138
      go_wp2_with (first | (go_at_call 190; refine (unhide HH).mono ?_; rintro r y ⟨rfl, hy⟩) | (go_at_call 191; refine (unhide (HG _ hy)).mono ?_; rintro r z ⟨rfl, hyz⟩; obtain rfl : y = z := hyz.symm))
      go_ret
      exact ⟨by simp [h0], hy⟩
    · simp only [h0, if_false, Option.getD_some, Option.isSome_some, recI] at HG
      have hw : IntKind.i64.wrap ((tick : Int) - (t : Int)) = (tick : Int) - (t : Int) := by rw [IntKind.wrap_i64]; omega
      by_cases h4 : t + 4 ≤ tick
      · have h4' : (4 : Int) ≤ (tick : Int) - (t : Int) := by omega
        go_enter Tryz.func138, Tryz.ntmps138
        go_wp2_with (first | (go_at_call 190; refine (unhide HH).mono ?_; rintro r y ⟨rfl, hy⟩) | (go_at_call 191; refine (unhide (HG _ hy)).mono ?_; rintro r z ⟨rfl, hyz⟩; obtain rfl : y = z := hyz.symm))
        go_ret
        exact ⟨by simp [h4], hy⟩
      · have h4' : ¬ (4 : Int) ≤ (tick : Int) - (t : Int) := by omega
        go_enter Tryz.func138, Tryz.ntmps138
        go_wp2_with (first | (go_at_call 190; refine (unhide HH).mono ?_; rintro r y ⟨rfl, hy⟩) | (go_at_call 191; refine (unhide (HG _ hy)).mono ?_; rintro r z ⟨rfl, hyz⟩; obtain rfl : y = z := hyz.symm))
        go_ret
        have hz : (t == 0) = false := by simp [h0]
        exact ⟨by simp [h4, hz]; omega, hy⟩
  · go_enter Tryz.func138, Tryz.ntmps138
    go_wp2_with (go_at_call 190; refine (unhide HH).mono ?_; rintro r y ⟨rfl, hy⟩)
    go_ret
    exact ⟨by simp, hy⟩
theorem strClone_any (s : ByteArray) (w : World) (hs : s.size ≤ 1000) : Calls Tryz.prog 91 #[.string s] w fun r w' => r = .returned (.string s) ∧ Below w.heap.size w w' := by
  have HC := hide (Tryz.stringslite_Clone s w (by omega))
  go_enter Tryz.func91, Tryz.ntmps91
  go_wp2_with (go_at_call 134; refine (unhide HC).mono ?_; rintro r y ⟨rfl, hy⟩)
  go_ret
  exact ⟨rfl, hy⟩
end
end Go.Proofs.YtamafdcnbcoegaaGreat
namespace Go.Proofs.YtamafdcnbcoegaaGreat
open Go.RowKit

theorem RowO.init {w : World} {e : TypeId} {n g o cap : Nat} {xs : List Value} (h : RowO w e 1 (.slice (some ⟨g, o, none⟩) (n + 1) cap) (n + 1) xs) : RowO w e 1 (.slice (some ⟨g, o, none⟩) n cap) n (xs.take n) := by
  obtain ⟨h1, ⟨h2, _⟩ | ⟨g', o', cap', cur, h2, hh, hn, hc, hs, ht⟩⟩ := h
  · cases h2
  · injection h2 with h2 _ h3
    injection h2 with h2
    injection h2 with h2 h4
    subst h2 h3 h4
    refine ⟨by simp; omega, .inr ⟨g, o, cap, cur, rfl, hh, by omega, hc, hs, ?_⟩⟩
    rw [← ht, List.take_take]
    congr 1
    omega
section
variable {w x y : World} {p : Nat} {g : Nat → Nat} {tk : Nat} {wel fen : Bool} {free : List Nat} {sh : Nat → List (Nat × Value)} {st st2 : Mod.Stv} {c : Av} {a : Mod.Ag} {op : Nat} {pl : Nat → List Nat}
/-- The store has written. -/
theorem paStep_store (H : PaAt w p g tk wel fen free sh st c) {uv' : Value} (k1 : StAt y c.s c.dp st2 c.dlv uv') (k2 : Loc w c.duv uv') (k3 : Far (StU c.s c.dp c.dlv c.duv) w y) (hl : st2.dk.bytes.length = 1664) : PaStep w y p g tk wel fen free sh st2 c := by
  refine ⟨{ c with duv := uv' }, ⟨H.ks.far k3 (fun k hk h => H.sep k hk h), k1, H.rl.far k3 (fun g hg h => (H.sepr g hg).2 h), hl⟩, k3.mono (fun k _ h => .inr (.inl h)), ?_, rfl, rfl⟩
  have hwz := k3.size
  rintro k (hk | (rfl | rfl | hk | hk) | hk)
  · exact .inl (.inl hk)
  · exact .inl (.inr (.inl (.inl rfl)))
  · exact .inl (.inr (.inl (.inr (.inl rfl))))
  · exact .inl (.inr (.inl (.inr (.inr (.inl hk)))))
  · rcases k2 with h | h | ⟨g, h, hg⟩
    · rw [h] at hk; cases hk
    · exact .inl (.inr (.inl (.inr (.inr (.inr (by rw [← h]; exact hk))))))
    · rw [h] at hk; cases hk; exact .inr hg
  · exact .inl (.inr (.inr hk))
theorem paAfter {z : World} {c1 : Av} (F : Far (PaU p c) w z) (N : ∀ k, PaU p c1 k → PaU p c k ∨ w.heap.size ≤ k) (t1 : c1.s = c.s) (t2 : c1.rv = c.rv) (h : PaStep z y p g tk wel fen free sh st c1) : PaStep w y p g tk wel fen free sh st c := by
  obtain ⟨c', h1, h2, h3, h4, h5⟩ := h
  refine ⟨c', h1, F.trans h2 (fun k hk hu => (N k hu).elim id (fun h => by omega)), fun k hk => ?_, h4.trans t1, h5.trans t2⟩
  rcases h3 k hk with h | h
  · exact N k h
  · exact .inr (Nat.le_trans F.size h)
theorem putRecord_len {st : Mod.Stv} (n i q : Nat) (b : List UInt8) (hb : b.length ≤ 20) (h : 64 * (2 + n) + 64 ≤ st.dk.bytes.length) : (st.putRecord n i q b).2.dk.bytes.length = st.dk.bytes.length := by
  unfold Mod.Stv.putRecord Mod.Dk.put
  simp only
  split
  · rfl
  · split
    · rfl
    · simp only
      exact Mod.length_setSec (Mod.length_sealB _ _ (by rw [Mod.length_recIn]; omega)) h
theorem putNumbers_len {st : Mod.Stv} (a b d : Nat) (hh : st.head ≤ 1) (h : 128 ≤ st.dk.bytes.length) : (st.putNumbers a b d).2.dk.bytes.length = st.dk.bytes.length := by
  unfold Mod.Stv.putNumbers Mod.Dk.put
  simp only
  split
  · rfl
  · split
    · rfl
    · simp only
      exact Mod.length_setSec (Mod.length_sealB _ _ (by rw [Mod.length_headIn]; omega)) (by omega)
theorem putNumbers_opening {st : Mod.Stv} (a b d : Nat) : (st.putNumbers a b d).2.opening = st.opening := rfl

set_option maxRecDepth 100000 in
set_option maxHeartbeats 2000000 in
theorem agSubmit_no (H : PaAt w p g a.ticks a.welcome a.fenced free sh st c) (hs : Sound st) (O : OnAg a st.opening g free sh pl) (i : Int) (s : ByteArray) (hr : a.refuses i s.size ≠ 0) :
    Calls Tryz.prog 52 #[ptrTo p, .int .i64 i, .string s] w fun r z => r = .returned (.int .i64 (a.refuses i s.size)) ∧ z = w := by
  have c0 : w.cell? ⟨p, 0, none⟩ = some (ptrTo c.s) := by rw [blk_cell H.ks.blk, H.ks.a0]
  have hID := storeIsDead_any H.stt
  rw [hs.1] at hID
  have HID := hide hID
  obtain ⟨ad, cap, hfv, _⟩ := H.ks.fr.shape
  have c22 : w.cell? ⟨p, 22, none⟩ = some (.slice ad free.length cap) := by rw [blk_cell H.ks.blk, H.ks.af, hfv]
  have hsum := O.sum
  obtain ⟨m, hm⟩ : ∃ m, m = free.length := ⟨_, rfl⟩
  rw [← hm] at c22 hsum
  have HIS := hide (isStream_any i w)
  obtain ⟨e, he⟩ : ∃ e, e = a.refuses i s.size := ⟨_, rfl⟩
  rw [← he]
  have hcase : (Wire.isStr i = false ∧ e = 5) ∨ (Wire.isStr i = true ∧ 20 < s.size ∧ e = 6) ∨ (Wire.isStr i = true ∧ ¬ 20 < s.size ∧ m = 0 ∧ e = 7) := by
    unfold Mod.Ag.refuses at he hr
    by_cases h1 : i < 0 ∨ 3 ≤ i
    · rw [if_pos h1] at he
      refine .inl ⟨?_, he⟩
      cases hc : Wire.isStr i
      · rfl
      · simp [Wire.isStr] at hc; omega
    · rw [if_neg h1] at he hr
      have hst : Wire.isStr i = true := by simp [Wire.isStr]; omega
      by_cases h2 : 20 < s.size
      · rw [if_pos h2] at he
        exact .inr (.inl ⟨hst, h2, he⟩)
      · rw [if_neg h2] at he hr
        by_cases h3 : 24 ≤ a.room
        · rw [if_pos h3] at he
          exact .inr (.inr ⟨hst, h2, by omega, he⟩)
        · rw [if_neg h3] at hr
          exact absurd rfl hr
  clear H hID hfv hm hr he O hsum
  unfold ptrTo at *
  rcases hcase with ⟨h1, rfl⟩ | ⟨h1, h2, rfl⟩ | ⟨h1, h2, rfl, rfl⟩
  · rw [h1] at HIS
    go_enter Tryz.func52, Tryz.ntmps52
    go_wp2_with (first | (go_at_call 86; refine (unhide HID).mono ?_; rintro r y ⟨rfl, hyw⟩; obtain rfl : w = y := hyw.symm) | (go_at_call 87; refine (unhide HIS).mono ?_; rintro r y ⟨rfl, hyw⟩; obtain rfl : w = y := hyw.symm))
    go_ret
    exact ⟨rfl, rfl⟩
  · rw [h1] at HIS
    have h2' : (20 : Int) < (s.size : Int) := by omega
    go_enter Tryz.func52, Tryz.ntmps52
    go_wp2_with (first | (go_at_call 86; refine (unhide HID).mono ?_; rintro r y ⟨rfl, hyw⟩; obtain rfl : w = y := hyw.symm) | (go_at_call 87; refine (unhide HIS).mono ?_; rintro r y ⟨rfl, hyw⟩; obtain rfl : w = y := hyw.symm))
    go_ret
    exact ⟨rfl, rfl⟩
  · rw [h1] at HIS
    have h2' : ¬ (20 : Int) < (s.size : Int) := by omega
    go_enter Tryz.func52, Tryz.ntmps52
    go_wp2_with (first | (go_at_call 86; refine (unhide HID).mono ?_; rintro r y ⟨rfl, hyw⟩; obtain rfl : w = y := hyw.symm) | (go_at_call 87; refine (unhide HIS).mono ?_; rintro r y ⟨rfl, hyw⟩; obtain rfl : w = y := hyw.symm))
    go_ret
    exact ⟨rfl, rfl⟩

set_option maxRecDepth 100000 in
set_option maxHeartbeats 4000000 in
theorem agSubmit_ok (H : PaAt w p g a.ticks a.welcome a.fenced free sh st c) (hs : Sound st) (O : OnAg a st.opening g free sh pl) {i : Nat} (hi : i < 3) (s : ByteArray) (hsz : s.size ≤ 20) (hroom : a.room < 24) (hsum : (a.fl i).base + (a.fl i).kept.length < 2147483647) :
    Calls Tryz.prog 52 #[ptrTo p, .int .i64 i, .string s] w fun r z => r = .returned (.int .i64 0) ∧ AgIs w z p (a.submit i s) c := by
  have hne : free ≠ [] := fun h => by have := O.sum; rw [h] at this; simp at this; omega
  obtain ⟨fr, q, rfl⟩ : ∃ fr q, free = fr ++ [q] := by
    rcases List.eq_nil_or_concat free with h | ⟨l, x, h⟩
    · exact absurd h hne
    · exact ⟨l, x, by rw [h, List.concat_eq_append]⟩
  have hq : q < 24 := O.lt q (by simp)
  have c0 : w.cell? ⟨p, 0, none⟩ = some (ptrTo c.s) := by rw [blk_cell H.ks.blk, H.ks.a0]
  have hID := storeIsDead_any H.stt
  rw [hs.1] at hID
  have HID := hide hID
  have hst : Wire.isStr (i : Int) = true := by simp [Wire.isStr]; omega
  have hIS := isStream_any (i : Int) w
  rw [hst] at hIS
  have HIS := hide hIS
  obtain ⟨ad, cap, hfv, _, _, hfc⟩ := H.ks.fr.shape
  have hlen : (fr ++ [q]).length = fr.length + 1 := by simp
  rw [hlen] at hfv hfc
  obtain ⟨gf, of, rfl, hfc2⟩ := hfc (by omega)
  have c22 : w.cell? ⟨p, 22, none⟩ = some (.slice (some ⟨gf, of, none⟩) (fr.length + 1) cap) := by rw [blk_cell H.ks.blk, H.ks.af, hfv]
  have cq : w.cell? ⟨gf, of + fr.length, none⟩ = some (.int .i64 q) := by
    rw [hfc2 fr.length (by omega)]
    simp [numCells]
  have hm24 : fr.length + 1 ≤ 24 := by have := O.sum; simp at this; omega
  obtain ⟨m, hm⟩ : ∃ m, m = fr.length := ⟨_, rfl⟩
  rw [← hm] at c22 cq hm24 hfv
  have hwl : IntKind.i64.wrap (((m + 1 : Nat) : Int) - 1) = (m : Int) := by rw [IntKind.wrap_i64]; omega
  have hwl2 : IntKind.i64.wrap ((m : Int) + 1 - 1) = (m : Int) := by rw [IntKind.wrap_i64]; omega
  have hwm : IntKind.i64.wrap (m : Int) = (m : Int) := by rw [IntKind.wrap_i64]; omega
  have hm1 : (0 : Int) ≤ (m : Int) := by omega
  have hm2 : (m : Int) < ((m + 1 : Nat) : Int) := by omega
  have hm3 : (m : Int) < (m : Int) + 1 := by omega
  have hm0 : (((m + 1 : Nat) : Int) == 0) = false := by simp; omega
  have hm0' : ((m : Int) + 1 == 0) = false := by simp; omega
  obtain ⟨bl, hbl⟩ : ∃ bl, bl = (a.fl i).base + (a.fl i).kept.length := ⟨_, rfl⟩
  have hLst := fun n => agLast_any (H.below (below_drewN (Below.refl _ _) n)) O hi (O.bs i hi)
  rw [← hbl] at hLst hsum
  have HLst := fun n => hide (hLst n)
  have hws : IntKind.i64.wrap ((bl : Int) + 1) = ((bl + 1 : Nat) : Int) := by rw [IntKind.wrap_i64]; omega
  obtain ⟨sq, hsq⟩ : ∃ sq, sq = bl + 1 := ⟨_, rfl⟩
  rw [← hsq] at hws
  obtain ⟨h0, hs2⟩ := sound_rec hs q i sq s.data.toList
  have hslen : s.data.toList.length = s.size := by simp
  have hpr := putRecord_len (st := st) q i sq s.data.toList (by omega) (by rw [H.len]; omega)
  rw [H.len] at hpr
  have hWR := fun y (hy : Below w.heap.size w y) => writeRecord_any y c.s c.dp st c.dlv c.duv (H.below hy).stt q i sq s (by rw [H.len]; omega) (by omega) (by omega) hsz
  have hop : (st.putRecord q i sq s.data.toList).2.opening = st.opening := rfl
  obtain ⟨st2, hst2⟩ : ∃ st2, st2 = (st.putRecord q i sq s.data.toList).2 := ⟨_, rfl⟩
  rw [← hst2] at hs2 hpr hop
  rw [h0, ← hst2] at hWR
  have HWR := fun y hy => hide (hWR y hy)
  have h20 : ¬ (20 : Int) < (s.size : Int) := by omega
  have hi0 : (0 : Int) ≤ (i : Int) := by omega
  have hi3 : (i : Int) < 3 := by omega
  have HFACT := hide (And.intro hs2 (And.intro hpr (And.intro hop (And.intro hm (And.intro hbl (And.intro hsq hfv))))))
  have HO := hide O
  have HH := hide H
  have hpl := lt_of_block H.ks.blk
  have hSC := fun y => hide (strClone_any s y (by omega))
  clear H O hID hIS hst hWR hs2 hpr hop hm hbl hsq hfv hLst h0 hst2 hfc hfc2 hslen hlen hne hs hroom hsum hsz
  unfold ptrTo at *
  go_enter Tryz.func52, Tryz.ntmps52
  go_upto_region 9 with (first | (go_at_call 86; refine (unhide HID).mono ?_; rintro r y ⟨rfl, hyw⟩; obtain rfl : w = y := hyw.symm) | (go_at_call 87; refine (unhide HIS).mono ?_; rintro r y ⟨rfl, hyw⟩; obtain rfl : w = y := hyw.symm))
  go_quiet (first | (go_at_call 88; exact Calls.quiet_of (unhide (HLst _))))
  go_upto_region 10 with fail
  refine wp_world (fun x => Below w.heap.size w x) (below_drewN (Below.refl _ _) _) ?_
  clear cq HID HIS HLst hws
  intro x hbx
  have d0 := (hbx.cell (p := ⟨p, 0, none⟩) hpl).trans c0
  have HX := hide hbx
  have hWX := hide (unhide (HWR x hbx))
  clear hbx c0 c22 HWR
  go_upto_region 13 with (go_at_call 89; refine (unhide hWX).mono ?_; rintro r y ⟨rfl, uv', k1, k2, k3⟩)
  obtain ⟨hs2, hpr, hop, hm, hbl, hsq, hfv⟩ := unhide HFACT
  have hST := paStep_store ((unhide HH).below (unhide HX)) k1 k2 k3 hpr
  have HST := hide (hST.behind (unhide HX))
  refine wp_world (fun z => PaStep w z p g a.ticks a.welcome a.fenced (fr ++ [q]) sh st2 c) (unhide HST) ?_
  clear k1 k2 k3 hST HST d0 hWX hs2 hpr hop hm hbl hsq hfv
  rintro z ⟨c1, K1, F1, N1, t1, t2⟩
  obtain ⟨ad1, cap1, hfv1, hcap1, _, hfc1⟩ := K1.ks.fr.shape
  obtain ⟨gf1, of1, rfl, _⟩ := hfc1 (by simp)
  have hm := (unhide HFACT).2.2.2.1
  have hlen1 : (fr ++ [q]).length = m + 1 := by simp [hm]
  rw [hlen1] at hfv1 hcap1
  have hmc : m ≤ cap1 := by omega
  have d22 : z.cell? ⟨p, 22, none⟩ = some (.slice (some ⟨gf1, of1, none⟩) (m + 1) cap1) := by rw [blk_cell K1.ks.blk, K1.ks.af, hfv1]
  have df : z.frozen? ⟨p, 22, none⟩ = false := blk_free (i := 22) K1.ks.blk
  have hpz := lt_of_block K1.ks.blk
  have hrow : RowO z 3 1 (.slice (some ⟨gf1, of1, none⟩) m cap1) fr.length (numCells fr) := by
    have h := K1.ks.fr
    rw [hlen1, hfv1] at h
    have h2 := h.init
    rw [← hm]
    have : (numCells (fr ++ [q])).take m = numCells fr := by rw [hm]; simp [numCells]
    rw [this] at h2
    exact h2
  have HSTEP := fun z2 (hz : Below z.heap.size z z2) => hide (paAfter (F1.trans (far_below (E := fun _ => False) hz) (fun _ _ h => h.elim)) N1 t1 t2 (paStep_free (free2 := fr) (x := z2) (v := .slice (some ⟨gf1, of1, none⟩) m cap1) (K1.below hz) (Far.refl _ _) (by rw [hm]; rw [hm] at hrow; exact hrow.far (far_below (E := fun _ => False) hz) (fun _ _ h => h)) (.inr (.inl (by rw [hfv1]; rfl)))))
  clear K1 F1 N1 t1 t2 hfc1 hrow hfv1 hlen1 hm
  refine wp_region_last (by kernel_rfl)
    [fun v _ => v = .pointer (some ⟨p, 0, none⟩), fun v _ => v = .pointer (some ⟨p, 0, none⟩), fun v _ => v = .pointer (some ⟨p, 0, none⟩), fun v _ => v = .pointer (some ⟨p, 22, none⟩), fun v _ => v = .slice (some ⟨gf1, of1, none⟩) (m + 1) cap1, fun v _ => v = .pointer (some ⟨p, 0, none⟩), fun v _ => v = .pointer (some ⟨p, 0, none⟩), fun v _ => v = .pointer (some ⟨p, 22, none⟩), fun v _ => v = .slice (some ⟨gf1, of1, none⟩) (m + 1) cap1,
     fun v _ => v = .int .i64 ((m + 1 : Nat) : Int), fun v _ => v = .int .i64 m, fun v _ => v = .slice (some ⟨gf1, of1, none⟩) m cap1, fun v _ => v = .pointer (some ⟨p, 0, none⟩), fun v _ => v = .pointer (some ⟨p, 22, none⟩), fun _ _ => True]
    [[(0, none)], [(0, none)], [(61, some 1)], [(62, some 2)], [(63, some 3)], [(0, none)], [(65, some 5)], [(66, some 6)], [(67, some 7)], [(68, some 8)], [(69, some 9)], [(64, some 4), (70, some 10)], [(60, some 0)], [(72, some 12)], [(73, some 13), (71, some 11)]] [some 60, some 61, some 62, some 63, some 64, some 65, some 66, some 67, some 68, some 69, some 70, some 71, some 72, some 73, none] [false, false, false, false, false, false, false, false, false, false, false, false, false, false, false, false, false, false, false, false, false, false, false, false, false, false, false, false, false, false, false, false, false, false, false, false, false, false, false, false, false, false, false, false, false, false, false, false, false, false, false, false, false, false, false, false, false, false, false, false, true, true, true, true, true, true, true, true, true, true, true, true, true, true, false, false, false, false, false, false, false, false, false, false, false, false]
    14 _ rfl rfl (by kernel_rfl) (by kernel_rfl) (by kernel_rfl) (by kernel_rfl) (by kernel_rfl) (by kernel_rfl) ?_ ?_ ?_
  · repeat' (first | exact stable_eq _ | exact stable_true | exact trivial | apply And.intro)
  · refine ⟨?_, ?_, ?_, ?_, ?_, ?_, ?_, ?_, ?_, ?_, ?_, ?_, ?_, ?_, trivial⟩
    all_goals
      intro a' y hb hf
      have e22 := (hb.cell (p := ⟨p, 22, none⟩) hpz).trans d22
      clear hb HSTEP
      simp only [PlanFacts, List.getD_cons_zero, List.getD_cons_succ, Array.getD_eq_getD_getElem?] at hf
      try simp at hf
      go_simp
      try exact ⟨_, rfl, Below.refl _ _, rfl⟩
      try exact Below.refl _ _
      try exact ⟨Below.refl _ _, by simp⟩
  · intro f y hby hwd
    simp only [AllWords, List.take] at hwd
    have g11 := hwd.2.2.2.2.2.2.2.2.2.2.2.1
    have g13 := hwd.2.2.2.2.2.2.2.2.2.2.2.2.2.1
    clear hwd
    have HSY := hide (unhide (HSTEP y hby))
    have e22 := (hby.cell (p := ⟨p, 22, none⟩) hpz).trans d22
    have ef : y.frozen? ⟨p, 22, none⟩ = false := (hby.frozen (p := ⟨p, 22, none⟩) hpz).trans df
    clear hby HSTEP d22 df
    simp only [mergeT, g11, g13]
    generalize f 60 = x60
    generalize f 61 = x61
    generalize f 62 = x62
    generalize f 63 = x63
    generalize f 64 = x64
    generalize f 65 = x65
    generalize f 66 = x66
    generalize f 67 = x67
    generalize f 68 = x68
    generalize f 69 = x69
    generalize f 70 = x70
    generalize f 72 = x72
    go_simp
    go_upto_region 14 with fail
    refine wp_world (fun z => PaStep w z p g a.ticks a.welcome a.fenced fr sh st2 c) (unhide HSY) ?_
    clear HSY e22 ef
    rintro z3 ⟨c3, K3, F3, N3, t1, t2⟩
    have hkl := (unhide HO).small hi
    have hshl : (sh (i * 3)).length < 1000 := by rw [(unhide HO).kp i hi, keptL_length _ _ _ ((unhide HO).pn i hi)]; omega
    have hPut := fun y (hy : Below z3.heap.size z3 y) => putA_any ((K3.below hy).shAt (i := i * 3) (by omega)) hshl sq s q
    simp only [recA, show 4 + i * 3 * 2 = 4 + i * 6 by omega] at hPut
    have HPUT := fun y hy => hide (hPut y hy)
    have HK3 := hide (And.intro K3 (And.intro F3 (And.intro N3 (And.intro t1 t2))))
    clear K3 F3 N3 t1 t2 hPut hkl hshl
    refine wp_region_last (by kernel_rfl)
      [fun v _ => v = .pointer (some ⟨p, 0, none⟩), fun v _ => v = .int .i64 i, fun v _ => v = .pointer (some ⟨p, 0, none⟩), fun v _ => v = .pointer (some ⟨p, 4, none⟩), fun v _ => v = .pointer (some ⟨p, 4 + i * 6, none⟩), fun v _ => v = .pointer (some ⟨p, 4 + i * 6, none⟩), fun v _ => v = .int .i64 sq, fun v _ => v = .string s, fun v _ => v = .string s, fun v _ => v = .int .i64 q, fun v _ => v = .agg #[.string s, .int .i64 q], fun _ _ => True]
      [[(0, none)], [(1, none)], [(74, some 0)], [(76, some 2)], [(77, some 3), (75, some 1)], [(78, some 4)], [(7, none)], [(2, none)], [(81, some 7)], [(8, none)], [(82, some 8), (83, some 9)], [(79, some 5), (80, some 6), (84, some 10)]] [some 74, some 75, some 76, some 77, some 78, some 79, some 80, some 81, some 82, some 83, some 84, some 85] [false, false, false, false, false, false, false, false, false, false, false, false, false, false, false, false, false, false, false, false, false, false, false, false, false, false, false, false, false, false, false, false, false, false, false, false, false, false, false, false, false, false, false, false, false, false, false, false, false, false, false, false, false, false, false, false, false, false, false, false, false, false, false, false, false, false, false, false, false, false, false, false, false, false, true, true, true, true, true, true, true, true, true, true, true, true]
      11 _ rfl rfl (by kernel_rfl) (by kernel_rfl) (by kernel_rfl) (by kernel_rfl) (by kernel_rfl) (by kernel_rfl) ?_ ?_ ?_
    · repeat' (first | exact stable_eq _ | exact stable_true | exact trivial | apply And.intro)
    · refine ⟨?_, ?_, ?_, ?_, ?_, ?_, ?_, ?_, ?_, ?_, ?_, trivial⟩
      all_goals
        intro a' y hb hf
        clear hb HPUT
        simp only [PlanFacts, List.getD_cons_zero, List.getD_cons_succ, Array.getD_eq_getD_getElem?] at hf
        try simp at hf
        go_simp
        try exact ⟨_, rfl, Below.refl _ _, rfl⟩
        try exact Below.refl _ _
        try exact ⟨Below.refl _ _, by simp⟩
      all_goals first
        | (refine (unhide (hSC _)).mono ?_; rintro r z ⟨rfl, hb⟩; exact ⟨rfl, hb⟩)
        | (refine (unhide (hSC _)).mono ?_; rintro r z ⟨rfl, hb⟩; exact ⟨_, rfl, hb, rfl⟩)
        | skip
    · intro f2 y hby hwd
      simp only [AllWords, List.take] at hwd
      have g5 := hwd.2.2.2.2.2.1
      have g6 := hwd.2.2.2.2.2.2.1
      have g10 := hwd.2.2.2.2.2.2.2.2.2.2.1
      clear hwd
      have HP := hide (unhide (HPUT y hby))
      have HBY := hide hby
      clear hby HPUT
      simp only [mergeT, g5, g6, g10]
      generalize f2 74 = y74
      generalize f2 75 = y75
      generalize f2 76 = y76
      generalize f2 77 = y77
      generalize f2 78 = y78
      generalize f2 81 = y81
      generalize f2 82 = y82
      generalize f2 83 = y83
      go_simp
      refine (unhide HP).mono ?_
      rintro r u ⟨rfl, hst⟩
      have HST := hide hst
      clear hst
      go_wp2
      go_ret
      refine ⟨rfl, ?_⟩
      obtain ⟨hs2, hpr, hop, hm, hbl, hsq, hfv⟩ := unhide HFACT
      obtain ⟨K3, F3, N3, t1, t2⟩ := unhide HK3
      have hst := unhide HST
      have hst3 : ShStep y u p (4 + i * 3 * 2) 151 c3.arr (c3.nv (i * 3)) (c3.mv (i * 3)) (putL (sh (i * 3)) sq (recA s q)) := by rw [show 4 + i * 3 * 2 = 4 + i * 6 by omega]; exact hst
      have h1 := paAfter F3 N3 t1 t2 ((paStep_sh (K3.below (unhide HBY)) (by omega) hst3).behind (unhide HBY))
      have hON := onAg_submit (unhide HO) hi s
      rw [← hbl, ← hsq, ← hop] at hON
      exact ⟨g, fr, _, _, st2, h1, hs2, hON⟩
end
end Go.Proofs.YtamafdcnbcoegaaGreat
namespace Go.Proofs.YtamafdcnbcoegaaGreat
open Go.RowKit

theorem size1 : (Tryz.prog.info? 3).map (·.size) = some 1 := by kernel_rfl
theorem eq_ints (S T : List Int) (w : World) : ∀ (is : List Nat), (∀ i ∈ is, i < S.length ∧ i < T.length) →
    (Op.eqItems 9999 3 1 (S.map (Value.int .i64)).toArray (T.map (Value.int .i64)).toArray is).run Tryz.prog w = .ok (is.all fun i => S.getD i 0 == T.getD i 0) w
  | [], _ => by simp [Op.eqItems]
  | i :: is, h => by
    have h0 := h i (.head _)
    have b1 : (S.map (Value.int .i64)).toArray[i]? = some (.int .i64 (S.getD i 0)) := by simp [h0.1, List.getD_eq_getElem?_getD]
    have b2 : (T.map (Value.int .i64)).toArray[i]? = some (.int .i64 (T.getD i 0)) := by simp [h0.2, List.getD_eq_getElem?_getD]
    have p1 := run_part_plain (P := Tryz.prog) w (e := 3) (by kernel_rfl) (off := i) b1
    have p2 := run_part_plain (P := Tryz.prog) w (e := 3) (by kernel_rfl) (off := i) b2
    have p3 := run_equalIn_int (P := Tryz.prog) w 9998 3 .i64 .i64 (S.getD i 0) (T.getD i 0) Tryz.underlying3
    have ih := eq_ints S T w is (fun j hj => h j (.tail _ hj))
    simp only [Op.eqItems, Nat.mul_one, Sem.run_bind, p1, p2, p3, Result.andThen_ok, List.all_cons]
    cases hc : (S.getD i 0 == T.getD i 0)
    · simp
    · simpa using ih
/-- Three numbers compared. -/
theorem eq_nums (a b c d e f : Int) (w : World) : (Op.equalIn 10000 136 (.agg #[.int .i64 a, .int .i64 b, .int .i64 c]) (.agg #[.int .i64 d, .int .i64 e, .int .i64 f])).run Tryz.prog w = .ok (a == d && (b == e && c == f)) w := by
  obtain ⟨i, hi⟩ : ∃ i, Tryz.prog.info? 3 = some i := by
    have := size1
    cases h : Tryz.prog.info? 3 with
    | none => rw [h] at this; cases this
    | some i => exact ⟨i, rfl⟩
  have hz : Tryz.prog.cellsOf 3 = 1 := by kernel_rfl
  have e := eq_ints [a, b, c] [d, e, f] w (List.range 3) (fun i hi => by have := List.mem_range.1 hi; simp; omega)
  rw [← hz] at e
  refine (run_equalIn_array (P := Tryz.prog) w 9999 #[.int .i64 a, .int .i64 b, .int .i64 c] _ Tryz.underlying136 hi).trans (e.trans ?_)
  simp [List.range_succ]
/-- A row of one number, in a block of its own. -/
def OneI (B : Nat) (n : Nat) (v : Value) (w : World) : Prop := ∃ g, v = .slice (some ⟨g, 0, none⟩) 1 1 ∧ B ≤ g ∧ w.heap[g]? = some (.cells #[.int .i64 n] 3 (0, 0))
theorem stable_oneI (B n : Nat) : Stable (OneI B n) := fun _ _ _ h hb => by
  obtain ⟨g, e, h1, h2⟩ := h
  exact ⟨g, e, h1, (hb.block g (lt_of_block h2)).trans h2⟩
theorem stableF_oneI {B n : Nat} {E : Nat → Prop} (hE : ∀ k, E k → k < B) : StableF E (OneI B n) := fun _ _ _ h hF => by
  obtain ⟨g, e, h1, h2⟩ := h
  exact ⟨g, e, h1, hF.blk h2 (fun e => by have := hE _ e; omega)⟩
/-- The row of numbers that is written to, behind it. -/
def RowI (w0 : World) (fv : Value) (l : List Nat) (v : Value) (w : World) : Prop := RowO w 3 1 v l.length (numCells l) ∧ Loc w0 fv v ∧ w0.heap.size ≤ w.heap.size
theorem stable_rowI (w0 : World) (fv : Value) (l : List Nat) : Stable (RowI w0 fv l) := fun _ _ _ h hb =>
  ⟨h.1.keep (fun g hg => hb.block g (h.1.lt g hg)), h.2.1, Nat.le_trans h.2.2 hb.size⟩
theorem stableF_rowI {w0 : World} {fv : Value} {l : List Nat} {E : Nat → Prop} (hE : ∀ k, E k → k < w0.heap.size ∧ fv.ownBlock ≠ some k) : StableF E (RowI w0 fv l) := fun _ _ _ h hF =>
  ⟨h.1.far hF (fun g hg e => by
    obtain ⟨h1, h2⟩ := hE g e
    rcases h.2.1 with h3 | h3 | ⟨k, h3, h4⟩
    · rw [h3] at hg; cases hg
    · rw [h3] at hg; exact h2 hg
    · rw [h3] at hg; cases hg; omega), h.2.1, Nat.le_trans h.2.2 hF.size⟩
def agD (a : Mod.Ag) (n : Nat → Nat) (j : Nat) : Mod.Ag := { a with fl := Mod.dropTo a.fl n j }
theorem agD_zero (a : Mod.Ag) (n : Nat → Nat) : agD a n 0 = a := by unfold agD; rw [Mod.dropTo_zero]
theorem agD_self (a : Mod.Ag) (n : Nat → Nat) (j : Nat) : (agD a n j).fl j = a.fl j := Mod.dropTo_self _ _ _
theorem agD_succ (a : Mod.Ag) (n : Nat → Nat) (j : Nat) : agD a n (j + 1) = { agD a n j with fl := Mod.upd (agD a n j).fl j (((agD a n j).fl j).drop (n j)) } := by
  unfold agD
  simp only [Mod.dropTo_succ, Mod.dropTo_self]
theorem agD_three (a : Mod.Ag) (n : Nat → Nat) : agD a n 3 = a.drop n := rfl
theorem drop_none {a : Mod.Ag} {n : Nat → Nat} (h : ∀ i, i < 3 → n i = 0) : a.drop n = a := by
  unfold Mod.Ag.drop
  have : Mod.dropTo a.fl n 3 = a.fl := by
    funext t
    unfold Mod.dropTo
    split
    · rename_i ht
      rw [h t ht]
      simp [Mod.Flow.drop]
    · rfl
  rw [this]
theorem flat_keptL : ∀ (b : Nat) (k : List (ByteArray × Nat)) (p : List Nat) (t : Nat), p.length = k.length → (ht : t < k.length) → (flat (keptL b k p))[t * 2]? = some (.string k[t].1) ∧ (flat (keptL b k p))[t * 2 + 1]? = some (.int .i64 (p.getD t 0 : Nat))
  | b, [], _, t, _, ht => by simp at ht
  | b, _ :: _, [], t, h, _ => by simp at h
  | b, x :: r, q :: qs, 0, _, _ => by
    rw [keptL_cons]
    exact ⟨rfl, rfl⟩
  | b, x :: r, q :: qs, t + 1, h, ht => by
    have ih := flat_keptL (b + 1) r qs t (by simpa using h) (by simpa using ht)
    rw [keptL_cons]
    have hf : flat ((b + 1, recA x.1 q) :: keptL (b + 1) r qs) = [.string x.1, .int .i64 q] ++ flat (keptL (b + 1) r qs) := rfl
    rw [hf, show (t + 1) * 2 = t * 2 + 2 by omega, show t * 2 + 2 + 1 = t * 2 + 1 + 2 by omega, List.getElem?_append_right (by simp), List.getElem?_append_right (by simp)]
    simpa using ih
theorem keptL_take : ∀ (n b : Nat) (k : List (ByteArray × Nat)) (p : List Nat), (keptL b k p).take n = keptL b (k.take n) (p.take n)
  | 0, b, k, p => by cases k <;> cases p <;> rfl
  | n + 1, b, [], p => by cases p <;> rfl
  | n + 1, b, x :: r, [] => rfl
  | n + 1, b, x :: r, q :: qs => by
    rw [keptL_cons, List.take_succ_cons, List.take_succ_cons, List.take_succ_cons, keptL_cons, keptL_take n (b + 1) r qs]
theorem shTook_below {w x y : World} {p o : Nat} {t : TypeId} {arr : Array Value} {nv mv : Value} {l : List (Nat × Value)} (h : ShTook w x p o t arr nv mv l) (hb : Below x.heap.size x y) : ShTook w y p o t arr nv mv l := by
  obtain ⟨⟨nv', S, e⟩, hF⟩ := h
  exact ⟨⟨nv', ⟨(hb.block _ (lt_of_block S.blk)).trans S.blk, S.c0, S.c1, S.sh.far (far_below (E := fun _ => False) hb) (fun _ _ h => h), S.ty⟩, e⟩, hF.trans (far_below hb) (fun _ _ h => h)⟩
end Go.Proofs.YtamafdcnbcoegaaGreat
namespace Go.Proofs.YtamafdcnbcoegaaGreat
open Go.RowKit
section
variable {w : World} {p : Nat} {g : Nat → Nat} {free : List Nat} {sh : Nat → List (Nat × Value)} {st : Mod.Stv} {c : Av} {a : Mod.Ag} {pl : Nat → List Nat}

set_option maxRecDepth 100000 in
set_option maxHeartbeats 2000000 in
theorem letGo_same (H : PaAt w p g a.ticks a.welcome a.fenced free sh st c) (X : Nat → Nat) (hX : ∀ i, i < 3 → X i = g i) :
    Calls Tryz.prog 152 #[ptrTo p, .agg #[.int .i64 (X 0), .int .i64 (X 1), .int .i64 (X 2)]] w fun r z => r = .returned (.int .i64 0) ∧ Below w.heap.size w z := by
  have g0 : w.cell? ⟨p, 1, none⟩ = some (.int .i64 (X 0)) := by rw [blk_cell H.ks.blk, hX 0 (by omega)]; exact H.ks.ag 0 (by omega)
  have g1 : w.cell? ⟨p, 2, none⟩ = some (.int .i64 (X 1)) := by rw [blk_cell H.ks.blk, hX 1 (by omega)]; exact H.ks.ag 1 (by omega)
  have g2 : w.cell? ⟨p, 3, none⟩ = some (.int .i64 (X 2)) := by rw [blk_cell H.ks.blk, hX 2 (by omega)]; exact H.ks.ag 2 (by omega)
  have hpl := lt_of_block H.ks.blk
  generalize X 0 = x0 at *
  generalize X 1 = x1 at *
  generalize X 2 = x2 at *
  have hcmp : ∀ z : World, (Op.equalIn 10000 136 (.agg #[.int .i64 x0, .int .i64 x1, .int .i64 x2]) (.agg #[.int .i64 x0, .int .i64 x1, .int .i64 x2])).run Tryz.prog z = .ok true z := fun z => by
    rw [eq_nums]; simp
  clear H hX
  unfold ptrTo
  go_enter Tryz.func152, Tryz.ntmps152
  go_upto_region 1 with fail
  refine wp_world (fun x => x.heap[w.heap.size]? = some (.cells #[.int .i64 x0, .int .i64 x1, .int .i64 x2] 136 (0, 0)) ∧ Below w.heap.size w x) ⟨heap_alloc_new _ _, (Below.refl _ _).alloc (Nat.le_refl _) _⟩ ?_
  rintro x ⟨hb, hB⟩
  have y0 := blk_cell (i := 0) hb
  have y1 := blk_cell (i := 1) hb
  have y2 := blk_cell (i := 2) hb
  simp at y0 y1 y2
  have z0 := (hB.cell (p := ⟨p, 1, none⟩) hpl).trans g0
  have z1 := (hB.cell (p := ⟨p, 2, none⟩) hpl).trans g1
  have z2 := (hB.cell (p := ⟨p, 3, none⟩) hpl).trans g2
  have HB := hide hB
  clear hb hB g0 g1 g2
  go_quiet (fail)
  go_wp2
  go_ret
  exact ⟨rfl, (unhide HB).trans (below_drewN (Below.refl _ _) _ |>.mono (unhide HB).size)⟩

/-- The three numbers are written. -/
theorem paStep_gone {tk : Nat} {wel fen : Bool} (H : PaAt w p g tk wel fen free sh st c) (X : Nat → Nat) :
    PaStep w (((w.setCell ⟨p, 1, none⟩ (.int .i64 (X 0))).setCell ⟨p, 2, none⟩ (.int .i64 (X 1))).setCell ⟨p, 3, none⟩ (.int .i64 (X 2))) p X tk wel fen free sh st c := by
  have one : ∀ {w : World} {c : Av} {g : Nat → Nat} (i : Nat) (hi : i < 3) (v : Nat), PaAt w p g tk wel fen free sh st c → PaStep w (w.setCell ⟨p, 1 + i, none⟩ (.int .i64 v)) p (fun t => if t = i then v else g t) tk wel fen free sh st c := by
    intro w c g i hi v H
    have hsz := H.ks.sz
    refine paStep_cell H (1 + i) (.int .i64 v) (.inl (by omega)) (fun j hj => ?_) ?_ ?_ ?_
    · by_cases e : j = i
      · subst e
        have : 1 + j < c.arr.size := by omega
        simp [this]
      · rw [Array.getElem?_setIfInBounds_ne (by omega), H.ks.ag j hj, if_neg e]
    · rw [Array.getElem?_setIfInBounds_ne (by omega)]; exact H.ks.at'
    · rw [Array.getElem?_setIfInBounds_ne (by omega)]; exact H.ks.aw
    · rw [Array.getElem?_setIfInBounds_ne (by omega)]; exact H.ks.ae
  have h1 := one 0 (by omega) (X 0) H
  have h2 := h1.trans (fun c' h => one 1 (by omega) (X 1) h)
  have h3 := h2.trans (fun c' h => one 2 (by omega) (X 2) h)
  obtain ⟨c', h, r⟩ := h3
  refine ⟨c', ⟨{ h.ks with ag := fun i hi => ?_ }, h.stt, h.rl, h.len⟩, r⟩
  rw [h.ks.ag i hi]
  obtain rfl | rfl | rfl : i = 0 ∨ i = 1 ∨ i = 2 := by omega
  all_goals simp

set_option maxRecDepth 100000 in
set_option maxHeartbeats 8000000 in
theorem letGo_some (H : PaAt w p g a.ticks a.welcome a.fenced free sh st c) (hs : Sound st) (O : OnAg a st.opening g free sh pl) (n X : Nat → Nat) (hn : ∀ i, i < 3 → n i ≤ (a.fl i).kept.length) (hX : ∀ i, i < 3 → X i = (a.fl i).base + n i) (hXm : ∀ i, i < 3 → X i < 4294967296)
    (hne : ¬ (X 0 = g 0 ∧ X 1 = g 1 ∧ X 2 = g 2)) :
    Calls Tryz.prog 152 #[ptrTo p, .agg #[.int .i64 (X 0), .int .i64 (X 1), .int .i64 (X 2)]] w fun r z => r = .returned (.int .i64 0) ∧ AgIs w z p (a.drop n) c := by
  have g0 : w.cell? ⟨p, 1, none⟩ = some (.int .i64 (g 0)) := by rw [blk_cell H.ks.blk]; exact H.ks.ag 0 (by omega)
  have g1 : w.cell? ⟨p, 2, none⟩ = some (.int .i64 (g 1)) := by rw [blk_cell H.ks.blk]; exact H.ks.ag 1 (by omega)
  have g2 : w.cell? ⟨p, 3, none⟩ = some (.int .i64 (g 2)) := by rw [blk_cell H.ks.blk]; exact H.ks.ag 2 (by omega)
  have hpl := lt_of_block H.ks.blk
  obtain ⟨h0, hs2⟩ := sound_num hs (X 0) (X 1) (X 2)
  have hln := putNumbers_len (st := st) (X 0) (X 1) (X 2) H.stt.hd (by rw [H.len]; omega)
  rw [H.len] at hln
  have hop := putNumbers_opening (st := st) (X 0) (X 1) (X 2)
  have hWN := fun y (hy : StAt y c.s c.dp st c.dlv c.duv) => writeNumbers_any y c.s c.dp st c.dlv c.duv hy (X 0) (X 1) (X 2) (hXm 0 (by omega)) (hXm 1 (by omega)) (hXm 2 (by omega))
  obtain ⟨st2, hst2⟩ : ∃ st2, st2 = (st.putNumbers (X 0) (X 1) (X 2)).2 := ⟨_, rfl⟩
  rw [h0, ← hst2] at hWN
  rw [← hst2] at hs2 hln hop
  have hcmp : ∀ z : World, (Op.equalIn 10000 136 (.agg #[.int .i64 (X 0), .int .i64 (X 1), .int .i64 (X 2)]) (.agg #[.int .i64 (g 0), .int .i64 (g 1), .int .i64 (g 2)])).run Tryz.prog z = .ok false z := fun z => by
    rw [eq_nums]
    congr 1
    by_cases e0 : (X 0 : Int) = (g 0 : Int)
    · by_cases e1 : (X 1 : Int) = (g 1 : Int)
      · have e2 : ¬ (X 2 : Int) = (g 2 : Int) := fun e2 => hne ⟨by omega, by omega, by omega⟩
        simp [e2]
      · simp [e1]
    · simp [e0]
  have hPG := fun (z : World) (c' : Av) (h : PaAt z p g a.ticks a.welcome a.fenced free sh st2 c') => paStep_gone h X
  have hXi : ∀ j : Nat, j < 3 → ∀ cs : Array Value, cs = #[.int .i64 (X 0), .int .i64 (X 1), .int .i64 (X 2)] → cs[j]? = some (.int .i64 (X j)) := by
    rintro j hj _ rfl
    obtain rfl | rfl | rfl : j = 0 ∨ j = 1 ∨ j = 2 := by omega
    all_goals rfl
  have HWN := fun y hy => hide (hWN y hy)
  have HPG := fun z c' h => hide (hPG z c' h)
  have HXI := hide hXi
  have HH := hide H
  have HO := hide O
  have HF := hide (And.intro hs2 (And.intro hln (And.intro hop (And.intro hn hX))))
  obtain ⟨x0, hx0⟩ : ∃ x, x = X 0 := ⟨_, rfl⟩
  obtain ⟨x1, hx1⟩ : ∃ x, x = X 1 := ⟨_, rfl⟩
  obtain ⟨x2, hx2⟩ : ∃ x, x = X 2 := ⟨_, rfl⟩
  rw [← hx0, ← hx1, ← hx2] at HWN hcmp HPG HXI ⊢
  have HXX := hide (And.intro hx0 (And.intro hx1 hx2))
  generalize g 0 = y0 at *
  generalize g 1 = y1 at *
  generalize g 2 = y2 at *
  clear H O hs2 hln hop hWN hPG hXi h0 hst2 hne hx0 hx1 hx2 hn hX hXm hs
  unfold ptrTo at *
  go_enter Tryz.func152, Tryz.ntmps152
  go_upto_region 1 with fail
  refine wp_world (fun x => x.heap[w.heap.size]? = some (.cells #[.int .i64 x0, .int .i64 x1, .int .i64 x2] 136 (0, 0)) ∧ Below w.heap.size w x) ⟨heap_alloc_new _ _, (Below.refl _ _).alloc (Nat.le_refl _) _⟩ ?_
  rintro x ⟨hb, hB⟩
  have b0 := blk_cell (i := 0) hb
  have b1 := blk_cell (i := 1) hb
  have b2 := blk_cell (i := 2) hb
  simp at b0 b1 b2
  have d0 := (hB.cell (p := ⟨p, 1, none⟩) hpl).trans g0
  have d1 := (hB.cell (p := ⟨p, 2, none⟩) hpl).trans g1
  have d2 := (hB.cell (p := ⟨p, 3, none⟩) hpl).trans g2
  have HB := hide hB
  have HBX := hide hb
  clear hb hB g0 g1 g2
  go_quiet (fail)
  go_upto_region 3 with fail
  refine wp_world (fun x => x.heap[w.heap.size]? = some (.cells #[.int .i64 x0, .int .i64 x1, .int .i64 x2] 136 (0, 0)) ∧ Below w.heap.size w x) ⟨unhide HBX, (unhide HB).trans (below_drewN (Below.refl _ _) _ |>.mono (unhide HB).size)⟩ ?_
  clear b0 b1 b2 d0 d1 d2 HB HBX hcmp
  rintro x ⟨hb, hB⟩
  have b0 := blk_cell (i := 0) hb
  have b1 := blk_cell (i := 1) hb
  have b2 := blk_cell (i := 2) hb
  simp at b0 b1 b2
  have hgx := lt_of_block hb
  have HB := hide hB
  have HBX := hide hb
  have hnSt : ∀ k, w.heap.size ≤ k → ¬ StU c.s c.dp c.dlv c.duv k := fun k hk h => by have := (unhide HH).lt k (.inr (.inl h)); omega
  clear hb hB
  refine wp_region_foot (by kernel_rfl)
    [fun v _ => v = .pointer (some ⟨p, 0, none⟩), fun v _ => v = .pointer (some ⟨p, 0, none⟩), fun v _ => v = .pointer (some ⟨p, 0, none⟩), fun v _ => v = .pointer (some ⟨c.s, 0, none⟩), fun v _ => v = .agg #[.int .i64 x0, .int .i64 x1, .int .i64 x2],
     fun v y => v = .int .i64 0 ∧ ∃ uv', StAt y c.s c.dp st2 c.dlv uv' ∧ Loc w c.duv uv', fun v _ => v = .int .i64 0]
    [[(0, none)], [(15, some 0)], [(16, some 1)], [(17, some 2)], [(3, none)], [(18, some 3), (19, some 4)], [(20, some 5)]] [some 15, some 16, some 17, some 18, some 19, some 20, some 5] [false, false, false, false, false, true, false, false, false, false, false, false, false, false, false, true, true, true, true, true, true, false, false, false, false, false, false, false, false, false, false, false, false, false, false, false, false, false, false, false, false, false, false, false, false, false, false, false, false, false, false, false, false, false, false, false, false, false, false, false, false, false, false, false, false, false, false, false, false]
    [(5, StU c.s c.dp c.dlv c.duv)]
    (by kernel_rfl) (by kernel_rfl) (by kernel_rfl) (by kernel_rfl) (by kernel_rfl) ?_ ?_ ?_ ?_
  · repeat' (first | exact stable_eq _ | exact (fun _ _ _ h hb => ⟨h.1, h.2.imp fun _ h => ⟨h.1.far (far_below (E := fun _ => False) hb) (fun _ _ h => h), h.2⟩⟩) | exact trivial | apply And.intro)
  · repeat' (first | exact trivial | exact .inl rfl | exact .inr (.inr (stableF_eq _ _)) | apply And.intro)
  · refine ⟨?_, ?_, ?_, ?_, ?_, ?_, ?_, trivial⟩
    all_goals
      intro a' z hb hf
      have hbG := hb.blk (unhide HBX) (footBut_no (by intro q hq; simp at hq; subst hq; exact hnSt _ (Nat.le_refl _)))
      have e0 := blk_cell (i := 0) hbG
      have e1 := blk_cell (i := 1) hbG
      have e2 := blk_cell (i := 2) hbG
      simp at e0 e1 e2
      clear hbG
      simp only [PlanFacts, List.getD_cons_zero, List.getD_cons_succ, Array.getD_eq_getD_getElem?] at hf
      try simp at hf
    iterate 3
      · clear hb
        go_simp
        exact ⟨_, rfl, Far.refl _ _, rfl⟩
    · have z0 : z.cell? ⟨p, 0, none⟩ = some (.pointer (some ⟨c.s, 0, none⟩)) := by
        have hH := (unhide HH).below (unhide HB)
        have := hb.blk hH.ks.blk (footBut_no (by intro q hq; simp at hq; subst hq; exact fun h => hH.sep p (.inl rfl) h))
        rw [blk_cell this, hH.ks.a0]
        rfl
      clear hb
      go_simp
      exact ⟨_, rfl, Far.refl _ _, rfl⟩
    · clear hb
      go_simp
      exact ⟨_, rfl, Far.refl _ _, rfl⟩
    · have hbz : Below x.heap.size x z := hb.below (Nat.le_refl _) (by
        rintro j _ ⟨q, hq, g1, g2, g3⟩
        simp at hq
        subst hq
        exact g1 rfl)
      have HC := hide (unhide (HWN z (((unhide HH).below (unhide HB)).below hbz).stt))
      have hzz := hbz.size
      have hzw := (unhide HB).size
      clear hb hbz
      go_simp
      refine (unhide HC).mono ?_
      rintro r z2 ⟨rfl, uv', k1, k2, k3⟩
      exact ⟨_, rfl, footOf_of (.head _) k3, rfl, uv', k1, loc_less k2 (by omega)⟩
    · clear hb
      obtain ⟨hf, _⟩ := hf
      go_simp
      exact ⟨_, rfl, Far.refl _ _, rfl⟩
  · intro f z hF hwd
    obtain ⟨_, uv', k1, k2⟩ := hwd.2.2.2.2.2.1
    have h6 := hwd.2.2.2.2.2.2.1
    have hF : Far (StU c.s c.dp c.dlv c.duv) x z := hF.mono (fun k _ h => by
      obtain ⟨q, hq, h⟩ := h
      simp at hq
      subst hq
      exact h)
    have hST := paStep_store (unhide HH) k1 k2 ((far_below (E := StU c.s c.dp c.dlv c.duv) (unhide HB)).trans hF (fun _ _ h => h)) (unhide HF).2.1
    have hbz := hF.blk (unhide HBX) (hnSt _ (Nat.le_refl _))
    have hG := hST.trans (fun c' h => unhide (HPG z c' h))
    obtain ⟨cz, Kz, _⟩ := id hST
    have f1 : z.frozen? ⟨p, 1, none⟩ = false := blk_free (i := 1) Kz.ks.blk
    have f2 : z.frozen? ⟨p, 2, none⟩ = false := blk_free (i := 2) Kz.ks.blk
    have f3 : z.frozen? ⟨p, 3, none⟩ = false := blk_free (i := 3) Kz.ks.blk
    have d1 : z.cell? ⟨p, 1, none⟩ = some (.int .i64 (g 0)) := by rw [blk_cell Kz.ks.blk]; exact Kz.ks.ag 0 (by omega)
    have d2 : z.cell? ⟨p, 2, none⟩ = some (.int .i64 (g 1)) := by rw [blk_cell Kz.ks.blk]; exact Kz.ks.ag 1 (by omega)
    have d3 : z.cell? ⟨p, 3, none⟩ = some (.int .i64 (g 2)) := by rw [blk_cell Kz.ks.blk]; exact Kz.ks.ag 2 (by omega)
    have b0 := blk_cell (i := 0) hbz
    have b1 := blk_cell (i := 1) hbz
    have b2 := blk_cell (i := 2) hbz
    simp at b0 b1 b2
    have hpG : ¬ w.heap.size = p := by omega
    have HG := hide hG
    have HBZ := hide hbz
    clear hwd hF k1 k2 hST hbz hG Kz
    simp only [mergeT, h6]
    generalize f 15 = x15
    generalize f 16 = x16
    generalize f 17 = x17
    generalize f 18 = x18
    generalize f 19 = x19
    generalize f 20 = x20
    go_upto_region 7 with fail
    have hbox : (((z.setCell ⟨p, 1, none⟩ (.int .i64 x0)).setCell ⟨p, 2, none⟩ (.int .i64 x1)).setCell ⟨p, 3, none⟩ (.int .i64 x2)).heap[w.heap.size]? = some (.cells #[.int .i64 x0, .int .i64 x1, .int .i64 x2] 136 (0, 0)) := by
      rw [blk_set_ne hpG, blk_set_ne hpG, blk_set_ne hpG]
      exact unhide HBZ
    refine wp_world (fun y => y.heap[w.heap.size]? = some (.cells #[.int .i64 x0, .int .i64 x1, .int .i64 x2] 136 (0, 0)) ∧ PaStep w y p X a.ticks a.welcome a.fenced free sh st2 c) ⟨hbox, unhide HG⟩ ?_
    clear hbox HBZ HG b0 b1 b2 f1 f2 f3 d1 d2 d3
    rintro y HY0
    have HY := hide HY0
    clear HY0
    go_wp2
    go_loopw [6, 28] (fun _ i wr => ∃ j : Nat, j ≤ 3 ∧ i = .int .i64 j ∧ wr.heap[w.heap.size]? = some (.cells #[.int .i64 x0, .int .i64 x1, .int .i64 x2] 136 (0, 0)) ∧ ∃ fr' sh' pl', PaStep w wr p X a.ticks a.welcome a.fenced fr' sh' st2 c ∧ OnAg (agD a n j) st2.opening (fun t => ((agD a n j).fl t).base) fr' sh' pl') (fun _ i _ => 3 - (intOf i).toNat)
    case atStart =>
      refine ⟨0, by omega, rfl, (unhide HY).1, free, sh, pl, (unhide HY).2, ?_⟩
      rw [agD_zero, (unhide HF).2.2.1]
      exact { (unhide HO) with bs := fun _ _ => rfl }
    case round =>
      obtain ⟨j, hj, rfl, hbG, fr', sh', pl', hP, hO⟩ := hrel
      clear HY
      by_cases hlt : j < 3
      · obtain ⟨c1, K1, F1, N1, t1, t2⟩ := hP
        have hnj := (unhide HF).2.2.2.1 j hlt
        have hXj := (unhide HF).2.2.2.2 j hlt
        have hkp := hO.kp j hlt
        have hpn := hO.pn j hlt
        rw [agD_self] at hkp hpn
        have hare : AreA (sh' (j * 3)) := by rw [hkp]; exact keptL_are _ _ _
        have hcut : cutAt (sh' (j * 3)) (X j) = n j := by rw [hkp, hXj]; exact keptL_cut _ _ _ _ hnj hpn
        have hTK := fun y (hy : Below wr.heap.size wr y) => takeUpToA_any ((K1.below hy).shAt (i := j * 3) (by omega)) hare (X j)
        simp only [hcut] at hTK
        have hTKs : ∀ y (hy : Below wr.heap.size wr y), Hid (Calls Tryz.prog 200 #[.pointer (some ⟨p, 4 + j * 6, none⟩), .int .i64 (X j)] y fun e w' => ∃ ad cap, e = .returned (.slice ad (n j) cap) ∧ RowO w' 158 2 (.slice ad (n j) cap) (n j) (flat ((sh' (j * 3)).take (n j))) ∧ ShTook y w' p (4 + j * 3 * 2) 151 c1.arr (c1.nv (j * 3)) (c1.mv (j * 3)) ((sh' (j * 3)).drop (n j))) := by
          intro y hy
          have h := hTK y hy
          rw [show 4 + j * 3 * 2 = 4 + j * 6 by omega] at h ⊢
          refine hide (h.mono ?_)
          rintro e w' ⟨v, rfl, ho, hs⟩
          have ho' := RowO.of_own (ownsRow_monoB ho (Nat.zero_le _))
          obtain ⟨ad, cap, rfl, _⟩ := ho'.shape
          exact ⟨ad, cap, rfl, ho', hs⟩
        have bj : wr.cell? ⟨w.heap.size, j, none⟩ = some (.int .i64 (X j)) := by
          rw [blk_cell hbG]
          exact (unhide HXI) j hlt _ rfl
        have hGl := lt_of_block hbG
        have hGn := pa_not_cells K1 hbG (by decide) (by decide) (by decide) (by decide) (by decide) (by decide) (by decide)
        have hGe : ¬ (w.heap.size = p ∨ ShU (c1.nv (j * 3)) (c1.mv (j * 3)) w.heap.size) := fun h => hGn (h.elim (fun h => .inl (.inl h)) (fun h => .inl (.inr (.inr ⟨_, by omega, h⟩))))
        have hj0 : (0 : Int) ≤ (j : Int) := by omega
        have hj3 : (j : Int) < 3 := by omega
        have HP := hide (And.intro K1 (And.intro F1 (And.intro N1 (And.intro t1 t2))))
        have HOJ := hide hO
        have HBG := hide hbG
        have HNJ := hide (And.intro hnj (And.intro hXj (And.intro hkp hpn)))
        obtain ⟨nj, hnjd⟩ : ∃ nj, nj = n j := ⟨_, rfl⟩
        obtain ⟨xj, hxjd⟩ : ∃ xj, xj = X j := ⟨_, rfl⟩
        rw [← hnjd] at hTKs
        rw [← hxjd] at hTKs bj
        have HEQ := hide (And.intro hnjd hxjd)
        clear hTK hare hcut K1 F1 N1 t1 t2 hO hbG hnj hXj hkp hpn hGn hnjd hxjd
        go_upto_region 10 with fail
        refine wp_region_foot (by kernel_rfl)
          [fun v _ => v = .pointer (some ⟨p, 0, none⟩), fun v _ => v = .int .i64 j, fun v _ => v = .pointer (some ⟨p, 0, none⟩), fun v _ => v = .pointer (some ⟨p, 4, none⟩), fun v _ => v = .pointer (some ⟨p, 4 + j * 6, none⟩), fun v _ => v = .pointer (some ⟨p, 4 + j * 6, none⟩), fun v _ => v = .int .i64 j, fun v _ => v = .pointer (some ⟨w.heap.size, j, none⟩), fun v _ => v = .int .i64 xj,
           fun v z => ∃ ad cap, v = .slice ad nj cap ∧ RowO z 158 2 (.slice ad nj cap) nj (flat ((sh' (j * 3)).take nj)) ∧ ShTook wr z p (4 + j * 3 * 2) 151 c1.arr (c1.nv (j * 3)) (c1.mv (j * 3)) ((sh' (j * 3)).drop nj), fun v _ => v = .int .i64 nj, fun v _ => v = .int .i64 0]
          [[(0, none)], [(6, none)], [(31, some 0)], [(33, some 2)], [(34, some 3), (32, some 1)], [(35, some 4)], [(6, none)], [(3, none), (37, some 6)], [(38, some 7)], [(36, some 5), (39, some 8)], [(40, some 9)], []] [some 31, some 32, some 33, some 34, some 35, some 36, some 37, some 38, some 39, some 40, some 41, some 42] [false, false, false, false, false, false, false, false, false, false, false, false, false, false, false, false, false, false, false, false, false, false, false, false, false, false, false, false, false, false, false, true, true, true, true, true, true, true, true, true, true, true, true, false, false, false, false, false, false, false, false, false, false, false, false, false, false, false, false, false, false, false, false, false, false, false, false, false, false]
          [(9, fun k => k = p ∨ ShU (c1.nv (j * 3)) (c1.mv (j * 3)) k)]
          (by kernel_rfl) (by kernel_rfl) (by kernel_rfl) (by kernel_rfl) (by kernel_rfl) ?_ ?_ ?_ ?_
        · repeat' (first | exact stable_eq _ | exact (fun _ _ _ h hb => h.imp fun _ h => h.imp fun _ h => ⟨h.1, h.2.1.keep (fun g hg => hb.block g (h.2.1.lt g hg)), shTook_below h.2.2 hb⟩) | exact trivial | apply And.intro)
        · repeat' (first | exact trivial | exact .inl rfl | exact .inr (.inr (stableF_eq _ _)) | exact .inr (.inl (by decide +kernel)) | apply And.intro)
        · refine ⟨?_, ?_, ?_, ?_, ?_, ?_, ?_, ?_, ?_, ?_, ?_, ?_, trivial⟩
          all_goals
            intro a' z hb hf
            have e0 : z.cell? ⟨w.heap.size, j, none⟩ = some (.int .i64 xj) := by
              have := hb.blk (unhide HBG) (footBut_no (by intro q hq; simp at hq; subst hq; exact hGe))
              rw [blk_cell this, ← blk_cell (unhide HBG)]
              exact bj
            simp only [PlanFacts, List.getD_cons_zero, List.getD_cons_succ, Array.getD_eq_getD_getElem?] at hf
            try simp at hf
          iterate 9
            · clear hb hTKs
              go_simp
              exact ⟨_, rfl, Far.refl _ _, rfl⟩
          · have hbz : Below wr.heap.size wr z := hb.below (Nat.le_refl _) (by
              rintro k _ ⟨q, hq, g1, g2, g3⟩
              simp at hq
              subst hq
              exact g1 rfl)
            have HC := hide (unhide (hTKs z hbz))
            have HBZ := hide hbz
            clear hb hbz hTKs
            go_simp
            refine (unhide HC).mono ?_
            rintro r z2 ⟨ad, cap, rfl, k1, k2⟩
            exact ⟨_, rfl, footOf_of (.head _) k2.far, ad, cap, rfl, k1, ⟨k2.out, (far_below (unhide HBZ)).trans k2.far (fun _ _ h => h)⟩⟩
          · obtain ⟨ad, cap, hv, _⟩ := hf
            clear hb hTKs
            go_simp
            exact ⟨_, rfl, Far.refl _ _, rfl⟩
          · clear hb hTKs
            go_simp
            exact ⟨_, rfl, Far.refl _ _, rfl⟩
        · intro f2 z1 hFz hwd
          obtain ⟨adt, capt, hv9, hrow, htook⟩ := hwd.2.2.2.2.2.2.2.2.2.1
          have hv10 := hwd.2.2.2.2.2.2.2.2.2.2.1
          have hv11 := hwd.2.2.2.2.2.2.2.2.2.2.2.1
          clear hwd hFz hTKs
          simp only [mergeT, hv9, hv10, hv11]
          generalize f2 31 = y31
          generalize f2 32 = y32
          generalize f2 33 = y33
          generalize f2 34 = y34
          generalize f2 35 = y35
          generalize f2 36 = y36
          generalize f2 37 = y37
          generalize f2 38 = y38
          generalize f2 39 = y39
          obtain ⟨K1, F1, N1, t1, t2⟩ := unhide HP
          have hbG1 := htook.far.blk (unhide HBG) hGe
          have hST1 := paAfter F1 N1 t1 t2 (paStep_sh K1 (i := j * 3) (by omega) (htook.step (K1.ks.am (j * 3) (by omega))))
          obtain ⟨sh1, hsh1⟩ : ∃ sh1, sh1 = fun t => if t = j * 3 then (sh' (j * 3)).drop nj else sh' t := ⟨_, rfl⟩
          rw [← hsh1] at hST1
          obtain ⟨TR, hTR⟩ : ∃ TR, TR = flat ((sh' (j * 3)).take nj) := ⟨_, rfl⟩
          rw [← hTR] at hrow
          have hTRc : ∀ t, t < nj → ∃ bt : ByteArray, TR[t * 2]? = some (.string bt) ∧ TR[t * 2 + 1]? = some (.int .i64 ((pl' j).getD t 0 : Nat)) := by
            intro t ht
            obtain ⟨hnj, hXj, hkp, hpn⟩ := unhide HNJ
            rw [← (unhide HEQ).1] at hnj
            rw [hTR, hkp, keptL_take]
            have := flat_keptL (a.fl j).base ((a.fl j).kept.take nj) ((pl' j).take nj) t (by simp [hpn]) (by simp; omega)
            have hg : ((pl' j).take nj).getD t 0 = (pl' j).getD t 0 := by
              rw [List.getD_eq_getElem?_getD, List.getD_eq_getElem?_getD, List.getElem?_take, if_pos ht]
            rw [hg] at this
            exact ⟨_, this.1, this.2⟩
          have hplj : ∀ t, t < nj → (pl' j).take (t + 1) = (pl' j).take t ++ [(pl' j).getD t 0] := by
            intro t ht
            obtain ⟨hnj, hXj, hkp, hpn⟩ := unhide HNJ
            rw [← (unhide HEQ).1] at hnj
            have htl : t < (pl' j).length := by omega
            rw [List.take_add_one, List.getElem?_eq_getElem htl, List.getD_eq_getElem?_getD, List.getElem?_eq_getElem htl]
            rfl
          have hnj24 : nj ≤ 24 := by
            have h1 := (unhide HO).small hlt
            have h2 := (unhide HNJ).1
            rw [← (unhide HEQ).1] at h2
            omega
          have HQ := hide (And.intro hbG1 (And.intro hrow hST1))
          have HT := hide (And.intro hTRc hplj)
          have HS1 := hide (And.intro hsh1 hTR)
          clear K1 F1 N1 t1 t2 hbG1 hST1 hsh1 hTR hTRc hplj hrow htook hv10 hv11 hv9
          go_wp2
          go_loopw [8, 42] (fun _ i wr2 => ∃ t : Nat, t ≤ nj ∧ i = .int .i64 t ∧ wr2.heap[w.heap.size]? = some (.cells #[.int .i64 x0, .int .i64 x1, .int .i64 x2] 136 (0, 0)) ∧ RowO wr2 158 2 (.slice adt nj capt) nj TR ∧ PaStep w wr2 p X a.ticks a.welcome a.fenced (fr' ++ (pl' j).take t) sh1 st2 c) (fun _ i _ => nj - (intOf i).toNat)
          case atStart =>
            obtain ⟨q1, q2, q3⟩ := unhide HQ
            exact ⟨0, by omega, rfl, q1, q2, by simpa using q3⟩
          case round =>
            obtain ⟨t, ht, rfl, hbG2, hrow2, hP2⟩ := hrel
            clear HQ
            by_cases htl : t < nj
            · obtain ⟨ad', cap', esl, _, _, hcl⟩ := hrow2.shape
              injection esl with esl _ esl2
              subst esl esl2
              obtain ⟨gt, ot, rfl, hcl2⟩ := hcl (by omega)
              obtain ⟨bt, hc0, hc1⟩ := (unhide HT).1 t htl
              have r0 := (hcl2 (t * 2) (by omega)).trans hc0
              have r1 := (hcl2 (t * 2 + 1) (by omega)).trans hc1
              rw [show ot + (t * 2 + 1) = ot + t * 2 + 1 by omega] at r1
              obtain ⟨pt, hpt⟩ : ∃ pt, pt = (pl' j).getD t 0 := ⟨_, rfl⟩
              rw [← hpt] at r1
              have HPT := hide hpt
              obtain ⟨c2, K2, F2, N2, s1, s2⟩ := hP2
              have ht0 : (0 : Int) ≤ (t : Int) := by omega
              have htn : (t : Int) < (nj : Int) := by omega
              have HK2 := hide (And.intro K2 (And.intro F2 (And.intro N2 (And.intro s1 s2))))
              have HBR := hide (And.intro hbG2 hrow2)
              clear K2 F2 N2 s1 s2 hcl hcl2 hc0 hc1 hpt hbG2 hrow2
              go_upto_region 13 with fail
              obtain ⟨g8, hg8⟩ : ∃ g8, g8 = wr.heap.size := ⟨_, rfl⟩
              have HG8 := hide hg8
              rw [← hg8]
              clear hg8
              refine wp_world (fun y => y.heap[g8]? = some (.cells #[.string bt, .int .i64 pt] 158 (0, 0)) ∧ Below wr.heap.size wr y) ?_ ?_
              · rw [unhide HG8]
                exact ⟨heap_alloc_new _ _, (Below.refl _ _).alloc (Nat.le_refl _) _⟩
              clear r0 r1
              rintro y8 ⟨h8, hb8⟩
              obtain ⟨K2, F2, N2, s1, s2⟩ := unhide HK2
              have K2y := K2.below hb8
              obtain ⟨Lf, hLf⟩ : ∃ Lf, Lf = fr' ++ (pl' j).take t := ⟨_, rfl⟩
              rw [← hLf] at K2y
              obtain ⟨m2, hm2⟩ : ∃ m2, m2 = Lf.length := ⟨_, rfl⟩
              obtain ⟨ad2, cap2, hfv2, _⟩ := K2y.ks.fr.shape
              have hrow2 := K2y.ks.fr
              rw [← hm2] at hfv2 hrow2
              have hm24 : m2 ≤ 24 + 24 := by
                have h1 := (unhide HOJ).sum
                rw [hm2, hLf, List.length_append, List.length_take]
                omega
              have d22 : y8.cell? ⟨p, 22, none⟩ = some c2.fv := by rw [blk_cell K2y.ks.blk, K2y.ks.af]
              have d22' : y8.cell? ⟨p, 22, none⟩ = some (.slice ad2 m2 cap2) := by rw [d22, hfv2]
              have hup := K2y.ks.fr.ne K2y.ks.blk (by decide)
              have hu8 := K2y.ks.fr.ne h8 (by decide)
              have hpy := lt_of_block K2y.ks.blk
              have h8l := lt_of_block h8
              have hp8 : ¬ g8 = p := by
                have := lt_of_block K2.ks.blk
                have := unhide HG8
                omega
              have hfvl := fun g hg => K2y.ks.fr.lt g hg
              have HKY := hide K2y
              have HB8 := hide hb8
              have H8 := hide h8
              have HR2 := hide hrow2
              have HL := hide (And.intro hLf hm2)
              have HSTK := hide (And.intro K2 (And.intro F2 (And.intro N2 (And.intro s1 s2))))
              clear K2 F2 N2 s1 s2 K2y hb8 h8 hrow2 hLf hm2 d22 d22'
              refine wp_region_foot (by kernel_rfl)
                [fun v _ => v = .pointer (some ⟨p, 0, none⟩), fun v _ => v = .pointer (some ⟨p, 0, none⟩), fun v _ => v = .pointer (some ⟨p, 0, none⟩), fun v _ => v = .pointer (some ⟨p, 22, none⟩), fun v _ => v = .slice ad2 m2 cap2, fun v _ => v = .pointer (some ⟨g8, 1, none⟩), fun v _ => v = .int .i64 pt, OneI y8.heap.size pt, RowI y8 c2.fv (Lf ++ [pt]), fun v _ => v = .pointer (some ⟨p, 0, none⟩), fun v _ => v = .pointer (some ⟨p, 22, none⟩),
                 fun _ z => PaStep y8 z p X a.ticks a.welcome a.fenced (Lf ++ [pt]) sh1 st2 c2]
                [[(0, none)], [(0, none)], [(47, some 1)], [(48, some 2)], [(49, some 3)], [(8, none)], [(51, some 5)], [(52, some 6)], [(50, some 4), (53, some 7)], [(46, some 0)], [(55, some 9)], [(56, some 10), (54, some 8)]] [some 46, some 47, some 48, some 49, some 50, some 51, some 52, some 53, some 54, some 55, some 56, none] [false, false, false, false, false, false, false, false, false, false, false, false, false, false, false, false, false, false, false, false, false, false, false, false, false, false, false, false, false, false, false, false, false, false, false, false, false, false, false, false, false, false, false, false, false, false, true, true, true, true, true, true, true, true, true, true, true, false, false, false, false, false, false, false, false, false, false, false, false]
                [(8, fun k => c2.fv.ownBlock = some k), (11, fun k => k = p)]
                (by kernel_rfl) (by kernel_rfl) (by kernel_rfl) (by kernel_rfl) (by kernel_rfl) ?_ ?_ ?_ ?_
              · repeat' (first | exact stable_eq _ | exact stable_oneI _ _ | exact stable_rowI _ _ _ | exact (fun _ _ _ h hb => h.below hb) | exact trivial | apply And.intro)
              · repeat' (first | exact trivial | exact .inl rfl | exact .inr (.inr (stableF_eq _ _)) | exact .inr (.inr (stableF_oneI (fun g hg => hfvl g hg))) | exact .inr (.inr (stableF_oneI (fun g (hg : g = p) => by omega))) | exact .inr (.inr (stableF_rowI (fun g (hg : g = p) => ⟨by omega, by rw [hg]; exact hup⟩))) | exact .inr (.inl (show depB _ 11 8 = true by decide +kernel)) | apply And.intro)
              · refine ⟨?_, ?_, ?_, ?_, ?_, ?_, ?_, ?_, ?_, ?_, ?_, ?_, trivial⟩
                all_goals
                  intro a' z hb hf
                  have hzz := hb.size
                  have HBZ := hide hb
                  clear hb
                  simp only [PlanFacts, List.getD_cons_zero, List.getD_cons_succ, Array.getD_eq_getD_getElem?] at hf
                  try simp at hf
                iterate 4
                  · go_simp
                    exact ⟨_, rfl, Far.refl _ _, rfl⟩
                · have d0 := (unhide HBZ).blk (unhide HKY).ks.blk (by
                    rintro ⟨q, hq, g1, g2, g3⟩
                    simp at hq
                    rcases hq with rfl | rfl
                    · exact hup g3
                    · exact absurd (show depB _ 11 4 = false from g2) (by decide +kernel))
                  have d1 : z.cell? ⟨p, 22, none⟩ = some (.slice ad2 m2 cap2) := by rw [blk_cell d0, (unhide HKY).ks.af, hfv2]
                  clear d0
                  go_simp
                  exact ⟨_, rfl, Far.refl _ _, rfl⟩
                · go_simp
                  exact ⟨_, rfl, Far.refl _ _, rfl⟩
                · have d0 := (unhide HBZ).blk (unhide H8) (by
                    rintro ⟨q, hq, g1, g2, g3⟩
                    simp at hq
                    rcases hq with rfl | rfl
                    · exact hu8 g3
                    · exact hp8 g3)
                  have d1 : z.cell? ⟨g8, 1, none⟩ = some (.int .i64 pt) := blk_cell (i := 1) d0
                  clear d0
                  go_simp
                  exact ⟨_, rfl, Far.refl _ _, rfl⟩
                · go_simp
                  exact ⟨_, rfl, far_below ((Below.refl _ _).alloc (Nat.le_refl _) _), _, rfl, hzz, heap_alloc_new z _⟩
                · have hoz := (unhide HR2).far (unhide HBZ) (by
                    rintro g hg ⟨q, hq, g1, g2, g3⟩
                    simp at hq
                    rcases hq with rfl | rfl
                    · exact g1 rfl
                    · have g3 : g = p := g3
                      exact hup (by rw [hg, g3]))
                  obtain ⟨g, hg, hgB, hgh⟩ := hf.2
                  have hoz2 : RowO z 3 1 (.slice ad2 m2 cap2) m2 (numCells Lf) := by rw [← hfv2]; exact hoz
                  refine step_app_o rfl (.tmp 50) (.tmp 53) 26 rfl 3 _ 1 8 Tryz.underlying26 infoI rfl (.slice ad2 m2 cap2) m2 (numCells Lf) hoz2 (by simp [Act.eval, hf]) ⟨g, 0, none⟩ 1 1 [.int .i64 pt] (by simp [Act.eval, hg]) rfl ?_ (by intro u hu; simp at hu; subst hu; rfl) (by omega) (by omega) (by omega) ?_
                  · intro k u hk
                    rw [add_mk, blk_cell hgh, Nat.zero_add]
                    simpa using hk
                  · intro v' w' g1 g2
                    obtain ⟨_, q2⟩ := unhide HL
                    have hg1 : RowO w' 3 1 v' (Lf ++ [pt]).length (numCells (Lf ++ [pt])) := by
                      rw [List.length_append, List.length_singleton, ← q2, show numCells (Lf ++ [pt]) = numCells Lf ++ [.int .i64 pt] by simp [numCells]]
                      exact g1
                    have hgr := g2.grown
                    rw [← hfv2] at hgr g2
                    exact ⟨v', rfl, footOf_of (.head _) (far_grown hgr), hg1, loc_app hzz g2, Nat.le_trans hzz hgr.size⟩
                · go_simp
                  exact ⟨_, rfl, Far.refl _ _, rfl⟩
                · go_simp
                  exact ⟨_, rfl, Far.refl _ _, rfl⟩
                · have hFz : Far (fun k => c2.fv.ownBlock = some k) y8 z := (unhide HBZ).mono (by
                    rintro k _ ⟨q, hq, g1, g2, g3⟩
                    simp at hq
                    rcases hq with rfl | rfl
                    · exact g3
                    · exact absurd rfl g1)
                  have d0 := hFz.blk (unhide HKY).ks.blk hup
                  have f1 : z.frozen? ⟨p, 22, none⟩ = false := blk_free (i := 22) d0
                  have d1 : z.cell? ⟨p, 22, none⟩ = some (.slice ad2 m2 cap2) := by rw [blk_cell d0, (unhide HKY).ks.af, hfv2]
                  obtain ⟨hv41, hrw⟩ := hf
                  obtain ⟨ad3, cap3, hv39, _⟩ := hrw.1.shape
                  have HRW := hide hrw
                  have HFZ := hide hFz
                  clear hrw d0 hFz
                  rw [hv39] at HRW
                  go_simp
                  refine ⟨footOf_of (.tail _ (.head _)) (far_set z p 22 _), ?_⟩
                  obtain ⟨R1, R2, _⟩ := unhide HRW
                  have hl1 : (Lf ++ [pt]).length = Lf.length + 1 := by simp
                  rw [hl1] at R2
                  have R1' : RowO z 3 1 (.slice ad3 (Lf.length + 1) cap3) (Lf ++ [pt]).length (numCells (Lf ++ [pt])) := by rw [← hl1]; exact R1
                  exact paStep_free (unhide HKY) _ (unhide HFZ) R1' R2
              · intro f3 z3 hF3 hwd
                have hput := hwd.2.2.2.2.2.2.2.2.2.2.2.1
                have hFz : Far (fun k => c2.fv.ownBlock = some k ∨ k = p) y8 z3 := hF3.mono (fun k _ h => by
                  obtain ⟨q, hq, h⟩ := h
                  simp at hq
                  rcases hq with rfl | rfl
                  · exact .inl h
                  · exact .inr h)
                have HP3 := hide hput
                have HFZ := hide hFz
                clear hput hwd hF3 hFz
                simp only [mergeT]
                generalize f3 46 = v46
                generalize f3 47 = v47
                generalize f3 48 = v48
                generalize f3 49 = v49
                generalize f3 50 = v50
                generalize f3 51 = v51
                generalize f3 52 = v52
                generalize f3 53 = v53
                generalize f3 54 = v54
                generalize f3 55 = v55
                generalize f3 56 = v56
                go_wp2
                obtain ⟨hbG2, hrow2⟩ := unhide HBR
                obtain ⟨K2, F2, N2, s1, s2⟩ := unhide HSTK
                have hb8 := unhide HB8
                have hFz := unhide HFZ
                obtain ⟨q1, q2⟩ := unhide HL
                have hGne : ¬ (c2.fv.ownBlock = some w.heap.size ∨ w.heap.size = p) := by
                  rintro (h | h)
                  · exact (K2.ks.fr.ne hbG2 (by decide)) h
                  · exact absurd h (by omega)
                refine ⟨⟨t + 1, by omega, by go_num, ?_, ?_, ?_⟩, by simp [intOf]; omega⟩
                · exact hFz.blk ((hb8.block _ (lt_of_block hbG2)).trans hbG2) hGne
                · refine (hrow2.far (far_below (E := fun _ => False) hb8) (fun _ _ h => h)).far hFz (fun g hg h => ?_)
                  rcases h with h | h
                  · exact (hrow2.ty K2.ks.fr (by decide) hg) h
                  · exact (hrow2.ne K2.ks.blk (by decide)) (by rw [hg, h])
                · rw [(unhide HT).2 t htl, ← List.append_assoc, ← q1, ← unhide HPT]
                  exact paAfter F2 N2 s1 s2 ((unhide HP3).behind hb8)
            · have htn : nj = t := by omega
              subst htn
              obtain ⟨c2, K2, F2, N2, s1, s2⟩ := hP2
              have hsh1 := (unhide HS1).1
              have hsi : AreI (sh1 (j * 3 + 1)) := by
                rw [hsh1]
                show AreI (if j * 3 + 1 = j * 3 then _ else sh' (j * 3 + 1))
                rw [if_neg (by omega)]
                exact (unhide HOJ).si j hlt
              have hTI := fun y (hy : Below wr.heap.size wr y) => hide (takeUpToI_any ((K2.below hy).shAt (i := j * 3 + 1) (by omega)) hsi xj)
              rw [show 4 + (j * 3 + 1) * 2 = 4 + j * 6 + 2 by omega] at hTI
              have bj2 : wr.cell? ⟨w.heap.size, j, none⟩ = some (.int .i64 xj) := by
                rw [blk_cell hbG2, (unhide HEQ).2]
                exact (unhide HXI) j hlt _ rfl
              have hGl2 := lt_of_block hbG2
              have HK2 := hide (And.intro K2 (And.intro F2 (And.intro N2 (And.intro s1 s2))))
              have HBG2 := hide hbG2
              clear K2 F2 N2 s1 s2 hbG2 hsh1 hsi hrow2
              go_upto_region 15 with fail
              refine wp_region_last (by kernel_rfl)
                [fun v _ => v = .pointer (some ⟨p, 0, none⟩), fun v _ => v = .int .i64 j, fun v _ => v = .pointer (some ⟨p, 0, none⟩), fun v _ => v = .pointer (some ⟨p, 4, none⟩), fun v _ => v = .pointer (some ⟨p, 4 + j * 6, none⟩), fun v _ => v = .pointer (some ⟨p, 4 + j * 6 + 2, none⟩), fun v _ => v = .int .i64 j, fun v _ => v = .pointer (some ⟨w.heap.size, j, none⟩), fun v _ => v = .int .i64 xj, fun _ _ => True]
                [[(0, none)], [(6, none)], [(58, some 0)], [(60, some 2)], [(61, some 3), (59, some 1)], [(62, some 4)], [(6, none)], [(3, none), (64, some 6)], [(65, some 7)], [(63, some 5), (66, some 8)]] [some 58, some 59, some 60, some 61, some 62, some 63, some 64, some 65, some 66, some 67] [false, false, false, false, false, false, false, false, false, false, false, false, false, false, false, false, false, false, false, false, false, false, false, false, false, false, false, false, false, false, false, false, false, false, false, false, false, false, false, false, false, false, false, false, false, false, false, false, false, false, false, false, false, false, false, false, false, false, true, true, true, true, true, true, true, true, true, true, false]
                9 _ rfl rfl (by kernel_rfl) (by kernel_rfl) (by kernel_rfl) (by kernel_rfl) (by kernel_rfl) (by kernel_rfl) ?_ ?_ ?_
              · repeat' (first | exact stable_eq _ | exact stable_true | exact trivial | apply And.intro)
              · refine ⟨?_, ?_, ?_, ?_, ?_, ?_, ?_, ?_, ?_, trivial⟩
                all_goals
                  intro a' z hb hf
                  have e0 := (hb.cell (p := ⟨w.heap.size, j, none⟩) hGl2).trans bj2
                  clear hb hTI
                  simp only [PlanFacts, List.getD_cons_zero, List.getD_cons_succ, Array.getD_eq_getD_getElem?] at hf
                  try simp at hf
                  go_simp
                  try exact ⟨_, rfl, Below.refl _ _, rfl⟩
                  try exact Below.refl _ _
              · intro f4 y4 hby hwd
                simp only [AllWords, List.take] at hwd
                have q5 := hwd.2.2.2.2.2.1
                have q8 := hwd.2.2.2.2.2.2.2.2.1
                clear hwd
                have HTI := hide (unhide (hTI y4 hby))
                have HBY := hide hby
                clear hby hTI
                simp only [mergeT, q5, q8]
                generalize f4 58 = u58
                generalize f4 59 = u59
                generalize f4 60 = u60
                generalize f4 61 = u61
                generalize f4 62 = u62
                generalize f4 64 = u64
                generalize f4 65 = u65
                go_simp
                refine (unhide HTI).mono ?_
                rintro r u ⟨v, rfl, ho, htk⟩
                have HTK := hide htk
                clear ho htk
                go_wp2
                obtain ⟨K2, F2, N2, s1, s2⟩ := unhide HK2
                have hby := unhide HBY
                have K2y := K2.below hby
                have htk := unhide HTK
                have htk2 : ShTook y4 u p (4 + (j * 3 + 1) * 2) 151 c2.arr (c2.nv (j * 3 + 1)) (c2.mv (j * 3 + 1)) ((sh1 (j * 3 + 1)).drop (cutAt (sh1 (j * 3 + 1)) xj)) := by rw [show 4 + (j * 3 + 1) * 2 = 4 + j * 6 + 2 by omega]; exact htk
                have hST := paAfter F2 N2 s1 s2 ((paStep_sh K2y (i := j * 3 + 1) (by omega) (htk2.step (K2.ks.am (j * 3 + 1) (by omega)))).behind hby)
                have hGn2 := pa_not_cells K2 (unhide HBG2) (by decide) (by decide) (by decide) (by decide) (by decide) (by decide) (by decide)
                obtain ⟨hnj, hXj, hkp, hpn⟩ := unhide HNJ
                obtain ⟨e1, e2⟩ := unhide HEQ
                have hsort : ((sh' (j * 3 + 1)).map (·.1)).Pairwise (· < ·) := by
                  have := (K2.ks.shs (j * 3 + 1) (by omega)).sorted
                  rw [(unhide HS1).1] at this
                  have e : (fun t => if t = j * 3 then (sh' (j * 3)).drop nj else sh' t) (j * 3 + 1) = sh' (j * 3 + 1) := if_neg (by omega)
                  rw [e] at this
                  exact this
                have hON := onAg_drop1 (unhide HOJ) hlt (n := n j) (by rw [agD_self]; exact hnj) hsort
                rw [← agD_succ] at hON
                refine ⟨⟨j + 1, by omega, by go_num, ?_, fr' ++ (pl' j).take nj, _, (fun t => if t = j then (pl' j).drop nj else pl' t), hST, ?_⟩, by simp [intOf]; omega⟩
                · refine htk.far.blk ((hby.block _ hGl2).trans (unhide HBG2)) (fun h => hGn2 ?_)
                  rcases h with h | h
                  · exact .inl (.inl h)
                  · exact .inl (.inr (.inr ⟨_, by omega, h⟩))
                · have hcut : cutAt (sh' (j * 3)) ((a.fl j).base + n j) = n j := by rw [hkp]; exact keptL_cut _ _ _ _ hnj hpn
                  rw [agD_self, hcut, ← e1, ← show xj = (a.fl j).base + nj by rw [e2, e1]; exact hXj] at hON
                  rw [(unhide HS1).1]
                  have e : (fun t => if t = j * 3 then (sh' (j * 3)).drop nj else sh' t) (j * 3 + 1) = sh' (j * 3 + 1) := if_neg (by omega)
                  rw [e]
                  exact { hON with bs := fun _ _ => rfl }
      · obtain rfl : j = 3 := by omega
        go_wp2
        go_ret
        refine ⟨rfl, X, fr', sh', pl', st2, hP, (unhide HF).1, ?_⟩
        rw [agD_three] at hO
        exact { hO with bs := fun i hi => (unhide HF).2.2.2.2 i hi |>.trans (by simp [Mod.Ag.drop, Mod.dropTo, hi, Mod.Flow.drop]) }
end
end Go.Proofs.YtamafdcnbcoegaaGreat
namespace Go.Proofs.YtamafdcnbcoegaaGreat
open Go.RowKit

theorem onSh_ix {a : Mod.Sk} {sh : Nat → List (Nat × Value)} (O : OnSh a.held sh) (A : ∀ s, s < 3 → AreS (sh s)) {s : Nat} (hs : s < 3) (q : Nat) : (look (sh s) (q : Int)).isSome = (a.ix s q).isSome := by
  cases h : a.ix s q with
  | none =>
    rcases areS_look (A s hs) (q : Int) with ⟨b, hl⟩ | hl
    · exact absurd ((O s hs q b).1 hl) (ix_none h b)
    · rw [hl]; rfl
  | some i =>
    rw [(O s hs q _).2 (ix_some h)]
    rfl
theorem ack_same {a : Mod.Sk} {sh : Nat → List (Nat × Value)} (O : OnSh a.held sh) (A : ∀ s, s < 3 → AreS (sh s)) {s : Nat} (hs : s < 3) (up : Nat) : ∀ j, ackTo (sh s) up j = ackBits a s up j
  | 0 => rfl
  | j + 1 => by rw [ackTo, ackBits, ack_same O A hs up j, onSh_ix O A hs]
theorem ack_body_same {a : Mod.Sk} {sh : Nat → List (Nat × Value)} (O : OnSh a.held sh) (A : ∀ s, s < 3 → AreS (sh s)) {s : Nat} (hs : s < 3) (up : Nat) : (⟨#[UInt8.ofNat (ackTo (sh s) up 3)]⟩ : ByteArray) = ackBody a s up := by
  rw [ack_same O A hs up 3]
  rfl
/-- Where the committing ends. -/
theorem commitFrom_end {a : Mod.Sk} {st q n : Nat} : ∀ (f : Nat) (out : List ByteArray), 120 ≤ n + out.length + f → ¬ (n + (a.commitFrom st q n f out).length < 120) ∨ a.ix st (q + (a.commitFrom st q n f out).length) = none
  | 0, out, h => .inl (by show ¬ (n + out.length < 120); omega)
  | f + 1, out, h => by
    by_cases hr : n + out.length < 120
    · cases hi : a.ix st (q + out.length) with
      | none => rw [Mod.Sk.commitFrom_none hr hi]; exact .inr hi
      | some i =>
        rw [Mod.Sk.commitFrom_some hr hi]
        exact commitFrom_end f _ (by simp; omega)
    · rw [Mod.Sk.commitFrom_stop hr]; exact .inl hr
theorem skMore_new : SkMore { epoch := 0, logs := fun _ => [], held := [] } := ⟨fun h hh => by simp at hh, fun _ s _ b hb => by simp at hb⟩
theorem skMore_hold {a : Mod.Sk} (M : SkMore a) (s q : Nat) (b : ByteArray) (hb : b.size ≤ 20) : SkMore (holdIt a s q b) := by
  unfold holdIt
  split
  · rename_i h
    obtain ⟨h1, h2, h3⟩ := h
    refine ⟨fun x hx => ?_, fun hr t ht c hc => ?_⟩
    · simp only [List.mem_append, List.mem_singleton] at hx
      rcases hx with hx | rfl
      · exact M.bod x hx
      · exact hb
    · simp only [List.mem_append, List.mem_singleton] at hc
      rcases hc with hc | hc
      · exact M.nxt hr t ht c hc
      · injection hc with e1 e2
        injection e2 with e2 e3
        subst e1
        omega
  · exact M
theorem skMore_take {a : Mod.Sk} (M : SkMore a) (s : Nat) (b : ByteArray) (hs : s < 3) (hroom : a.count < 120) : SkMore (takeIt a s (a.commitFrom s ((a.logs s).length + 1) a.count 120 [b])) := by
  have hend := commitFrom_end (a := a) (st := s) (q := (a.logs s).length + 1) (n := a.count) 120 [b] (by omega)
  obtain ⟨got, hg⟩ : ∃ got, got = a.commitFrom s ((a.logs s).length + 1) a.count 120 [b] := ⟨_, rfl⟩
  rw [← hg] at hend ⊢
  have hcount : (takeIt a s got).count = a.count + got.length := grown_count a s hs got
  refine ⟨fun x hx => M.bod x (List.mem_filter.1 (show x ∈ a.held.filter _ from hx)).1, fun hr t ht c hc => ?_⟩
  rw [hcount] at hr
  have hc' : (t, ((takeIt a s got).logs t).length + 1, c) ∈ a.held := (List.mem_filter.1 (show _ ∈ a.held.filter _ from hc)).1
  by_cases e : t = s
  · subst e
    rw [takeIt_logs, List.length_append] at hc'
    rcases hend with h | h
    · exact h hr
    · rw [show (a.logs t).length + 1 + got.length = (a.logs t).length + got.length + 1 by omega] at h
      exact ix_none h c hc'
  · have hl : (takeIt a s got).logs t = a.logs t := by
      show (if t = s then _ else a.logs t) = _
      rw [if_neg e]
    rw [hl] at hc'
    exact M.nxt hroom t ht c hc'
theorem skMore_hello {a : Mod.Sk} (M : SkMore a) (e : Nat) : SkMore (helloIt a e) := by
  unfold helloIt helloHeld
  split
  · exact ⟨fun x hx => by simp at hx, fun _ t _ c hc => by simp at hc⟩
  · exact ⟨M.bod, M.nxt⟩
/-- What is committed by a Data that is the next one, while there is room. -/
theorem commits_some {a : Mod.Sk} {s : Nat} {b : ByteArray} (hroom : a.count < 120) : a.commits 3 a.epoch s ((a.logs s).length + 1 : Nat) b = a.commitFrom s ((a.logs s).length + 1) a.count 120 [b] := by
  unfold Mod.Sk.commits
  rw [if_neg (by simp), if_neg (by omega)]
  simp
theorem commits_other {a : Mod.Sk} {s q : Nat} {b : ByteArray} (h : ¬ (q = (a.logs s).length + 1 ∧ a.count < 120)) : a.commits 3 a.epoch s q b = [] := by
  unfold Mod.Sk.commits
  by_cases h1 : q = (a.logs s).length + 1
  · rw [if_neg (by simp [h1]), if_pos (by omega)]
  · rw [if_pos (by right; right; simp; omega)]
theorem skAfter_take {a : Mod.Sk} {s : Nat} {b : ByteArray} (hroom : a.count < 120) : skAfter a 3 a.epoch s ((a.logs s).length + 1) b = takeIt a s (a.commitFrom s ((a.logs s).length + 1) a.count 120 [b]) := by
  unfold skAfter
  rw [commits_some hroom, if_neg (commitFrom_ne (by simp))]
theorem skAfter_hold {a : Mod.Sk} {s q : Nat} {b : ByteArray} (h : ¬ (q = (a.logs s).length + 1 ∧ a.count < 120)) : skAfter a 3 a.epoch s q b = holdIt a s q b := by
  unfold skAfter
  rw [commits_other h, if_pos rfl]
theorem skMore_after {a : Mod.Sk} (M : SkMore a) (s q : Nat) (b : ByteArray) (hs : s < 3) (hb : b.size ≤ 20) : SkMore (skAfter a 3 a.epoch s q b) := by
  by_cases h : q = (a.logs s).length + 1 ∧ a.count < 120
  · obtain ⟨rfl, hr⟩ := h
    rw [skAfter_take hr]
    exact skMore_take M s b hs hr
  · rw [skAfter_hold h]
    exact skMore_hold M s q b hb
/-- What lies on the shelves when a record is held. -/
theorem onSh_hold {a : Mod.Sk} {sh : Nat → List (Nat × Value)} (O : OnSh a.held sh) (s q : Nat) (b : ByteArray) (hs : s < 3) (hq : a.ix s q = none) : OnSh (a.held ++ [(s, q, b)]) (fun t => if t = s then putL (sh s) q (recS b) else sh t) := by
  intro t ht n c
  show look (if t = s then _ else sh t) _ = _ ↔ _
  rw [List.mem_append, List.mem_singleton]
  by_cases e : t = s
  · subst e
    rw [if_pos rfl, look_putL]
    unfold putF
    by_cases h1 : (n : Int) = (q : Int)
    · have h1' : n = q := by omega
      subst h1'
      rw [if_pos rfl]
      constructor
      · intro h
        injection h with h
        unfold recS at h
        injection h with h
        have : c = b := by
          have := congrArg Array.toList h
          simp at this
          exact this.symm
        subst this
        exact .inr rfl
      · rintro (h | h)
        · exact absurd h (ix_none hq c)
        · injection h with _ h
          injection h with _ h
          rw [h]
    · rw [if_neg h1, O t ht n c]
      constructor
      · exact .inl
      · rintro (h | h)
        · exact h
        · injection h with _ h
          injection h with h _
          omega
  · rw [if_neg e, O t ht n c]
    constructor
    · exact .inl
    · rintro (h | h)
      · exact h
      · injection h with h _
        exact absurd h e
theorem onSh_nil : OnSh [] (fun _ => []) := by
  intro t _ n c
  simp [look]
/-- A frame in the box that lies first behind w; else nothing has changed. -/
structure BoxAt (w : World) (cs : Array Value) (x : World) : Prop where
  box : x.heap[w.heap.size]? = some (.cells cs 41 (0, 0))
  bel : Below w.heap.size w x
theorem boxAt_new (w : World) (cs : Array Value) : BoxAt w cs (w.alloc (.cells cs 41)) := ⟨heap_alloc_new _ _, (Below.refl _ _).alloc (Nat.le_refl _) _⟩
theorem BoxAt.lt {w x : World} {cs : Array Value} (h : BoxAt w cs x) : w.heap.size < x.heap.size := lt_of_block h.box
theorem BoxAt.below {w x y : World} {cs : Array Value} (h : BoxAt w cs x) (hb : Below x.heap.size x y) : BoxAt w cs y :=
  ⟨(hb.block _ h.lt).trans h.box, h.bel.trans (hb.mono h.bel.size)⟩
theorem BoxAt.drewN {w x : World} {cs : Array Value} (h : BoxAt w cs x) (n : Nat) : BoxAt w cs (x.drewN n) := h.below (below_drewN (Below.refl _ _) n)
/-- Behind a call that may change a sink: what it is then. -/
def SkIs (w x : World) (p : Nat) (a : Mod.Sk) (c : Sv) : Prop := ∃ sh st, PkStep w x p a.epoch a.logs sh st c ∧ Sound st ∧ OnSh a.held sh
theorem SkIs.behind {w x y : World} {p : Nat} {a : Mod.Sk} {c : Sv} (h : SkIs x y p a c) (hb : Below w.heap.size w x) : SkIs w y p a c := by
  obtain ⟨sh, st, ⟨c', h1, h2, h3, h4, h5⟩, hs, ho⟩ := h
  exact ⟨sh, st, ⟨c', h1, (far_below (E := PkU p c) hb).trans h2 (fun _ _ h => h), fun k hk => (h3 k hk).imp id (fun h => Nat.le_trans hb.size h), h4, h5⟩, hs, ho⟩
theorem SkIs.below {w x y : World} {p : Nat} {a : Mod.Sk} {c : Sv} (h : SkIs w x p a c) (hb : Below x.heap.size x y) : SkIs w y p a c := by
  obtain ⟨sh, st, hk, hs, ho⟩ := h
  exact ⟨sh, st, hk.below hb, hs, ho⟩
theorem skIs_refl {w : World} {p : Nat} {a : Mod.Sk} {sh : Nat → List (Nat × Value)} {st : Mod.Stv} {c : Sv} (H : PkAt w p a.epoch a.logs sh st c) (hs : Sound st) (O : OnSh a.held sh) : SkIs w w p a c := ⟨sh, st, pkStep_refl H, hs, O⟩
/-- A shelf of a sink has few things. -/
theorem onSh_small {a : Mod.Sk} {sh : Nat → List (Nat × Value)} (G : SkGood a) (O : OnSh a.held sh) (A : ∀ s, s < 3 → AreS (sh s)) {s : Nat} (hs : s < 3) (hsort : ((sh s).map (·.1)).Pairwise (· < ·)) : (sh s).length < 1000 := by
  have hin : ∀ n ∈ (sh s).map (·.1), (a.logs s).length + 1 ≤ n ∧ n ≤ (a.logs s).length + 4 := by
    intro n hn
    have hc : (look (sh s) (n : Int)).isSome = true := by rw [look_isSome]; simpa using hn
    rcases areS_look (A s hs) (n : Int) with ⟨b, hl⟩ | hl
    · have hm := (O s hs n b).1 hl
      exact (G.held _ hm).2
    · rw [hl] at hc; cases hc
  have h1 : (((sh s).map (·.1)).map fun n => n - (a.logs s).length - 1).Nodup := by
    rw [List.Nodup, List.pairwise_map]
    refine hsort.imp_of_mem (fun {x y} hx hy hlt e => ?_)
    have gx := hin x hx
    have gy := hin y hy
    omega
  have h2 := nodup_lt 4 _ h1 (fun n hn => by
    obtain ⟨m, hm, rfl⟩ := List.mem_map.1 hn
    have := hin m hm
    omega)
  simp at h2
  omega
end Go.Proofs.YtamafdcnbcoegaaGreat
