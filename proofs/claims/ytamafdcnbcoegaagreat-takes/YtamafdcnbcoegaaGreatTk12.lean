/-
  Part 12 of a proof: K7, K8, K9, K10, K11, K12, K13.
-/
import Derived.Test.YtamafdcnbcoegaaGreatTk11
namespace Go.Proofs.YtamafdcnbcoegaaGreat
open Go.RowKit

theorem pk_not_cells {w : World} {p e : Nat} {logs : Nat → List ByteArray} {sh : Nat → List (Nat × Value)} {st : Mod.Stv} {c : Sv} (H : PkAt w p e logs sh st c) {q : Nat} {cs : Array Value} {t : TypeId} {fr : Nat × Nat} (hb : w.heap[q]? = some (.cells cs t fr))
    (h1 : t ≠ 176) (h2 : t ≠ 9) (h3 : t ≠ 3) (h4 : t ≠ 203) (h5 : t ≠ 252) (h6 : t ≠ 5) (h7 : t ≠ 261) (h8 : t ≠ 179) : ¬ PkU p c q := by
  rintro (h | (h | h) | h)
  · exact ks_not_cells H.ks hb h1 h2 h3 h
  · subst h
    have := H.stt.blk
    rw [hb] at this
    injection this with this
    injection this with _ this _
    exact h4 this
  · exact dk_ne H.stt.dk hb (fun e => h5 e.symm) (fun e => h6 e.symm) (fun e => h7 e.symm) h
  · exact H.rl.ne hb (fun e => h8 e.symm) h
/-- The logs when out is committed to one. -/
theorem grown_zero (a : Mod.Sk) (s : Nat) : (grown a s []).logs = a.logs := by
  funext t
  show (if t = s then a.logs s ++ [] else a.logs t) = _
  split
  · rename_i h; subst h; simp
  · rfl
theorem grown_snoc (a : Mod.Sk) (s : Nat) (out : List ByteArray) (c : ByteArray) : (fun j => if j = s then (grown a s out).logs s ++ [c] else (grown a s out).logs j) = (grown a s (out ++ [c])).logs := by
  funext t
  show (if t = s then (if s = s then a.logs s ++ out else a.logs s) ++ [c] else (if t = s then a.logs s ++ out else a.logs t)) = if t = s then a.logs s ++ (out ++ [c]) else a.logs t
  split
  · simp
  · rfl
theorem grown_sum (a : Mod.Sk) (s : Nat) (hs : s < 3) (out : List ByteArray) : ((grown a s out).logs 0).length + ((grown a s out).logs 1).length + ((grown a s out).logs 2).length = a.count + out.length := grown_count a s hs out
theorem grown_self (a : Mod.Sk) (s : Nat) (out : List ByteArray) : (grown a s out).logs s = a.logs s ++ out := by
  show (if s = s then _ else _) = _
  rw [if_pos rfl]
/-- Boxes of a record are boxes of a record still. -/
def RecKept (w1 w2 : World) : Prop := ∀ (g : Nat) (x : ByteArray), w1.heap[g]? = some (.cells #[.string x] 235 (0, 0)) → ∃ x' : ByteArray, w2.heap[g]? = some (.cells #[.string x'] 235 (0, 0))
theorem recKept_refl (w : World) : RecKept w w := fun _ x h => ⟨x, h⟩
theorem recKept_set (w : World) (g : Nat) (b : ByteArray) : RecKept w (w.setCell ⟨g, 0, none⟩ (.string b)) := by
  intro k x h
  by_cases e : k = g
  · subst e
    have := blk_set (j := 0) (v := .string b) h
    exact ⟨b, by simpa using this⟩
  · exact ⟨x, (far_set w g 0 (.string b)).blk h e⟩
def sliceLen : Option Value → Nat
  | some (.slice _ n _) => n
  | _ => 0
/-- In the midst of commitFrom. -/
def CmAt (w x : World) (p : Nat) (a : Mod.Sk) (i : Nat) (b : ByteArray) (c : Sv) (out : List ByteArray) : Prop :=
  ∃ sh st, InCm a i ((a.logs i).length + 1) b out sh ∧ Sound st ∧ PkStep w x p a.epoch (grown a i out).logs sh st c
theorem commit_sound {w : World} {p : Nat} {a : Mod.Sk} {sh : Nat → List (Nat × Value)} {st : Mod.Stv} {c : Sv} {out : List ByteArray} {i : Nat} (hi : i < 3) (H : PkAt w p a.epoch (grown a i out).logs sh st c) (hs : Sound st) (b : ByteArray) (hb : b.size ≤ 20) (hroom : a.count + out.length < 120) :
    Calls Tryz.prog 222 #[ptrTo p, .int .i64 i, .string b] w fun r w' => r = .returned (.int .i64 0) ∧ ∃ st', Sound st' ∧ PkStep w w' p a.epoch (grown a i (out ++ [b])).logs sh st' c := by
  refine (commit_any H i hi b hb (by rw [grown_sum a i hi]; exact hroom)).mono ?_
  rintro r w' ⟨rfl, h⟩
  have h0 := sound_rec hs (((grown a i out).logs 0).length + ((grown a i out).logs 1).length + ((grown a i out).logs 2).length) i (((grown a i out).logs i).length + 1) b.data.toList
  rw [if_pos h0.1, grown_snoc] at h
  exact ⟨by rw [h0.1], _, h0.2, h⟩

set_option maxRecDepth 100000 in
set_option maxHeartbeats 4000000 in
theorem commitFrom_any {w : World} {p : Nat} {a : Mod.Sk} {sh : Nat → List (Nat × Value)} {st : Mod.Stv} {c : Sv} (H : PkAt w p a.epoch a.logs sh st c) (hc : Sound st) (G : SkGood a) (M : SkMore a) (O : OnSh a.held sh) (i : Nat) (hi : i < 3) (b : ByteArray) (hb : b.size ≤ 20) (hroom : a.count < 120) :
    Calls Tryz.prog 205 #[ptrTo p, .int .i64 i, .string b] w fun r w' => r = .returned (.int .i64 0) ∧
      ∃ out, CmAt w w' p a i b c out ∧ out = a.commitFrom i ((a.logs i).length + 1) a.count 120 [b] := by
  have I0 := inCm_start G M O H.ks.are i b hi hb hroom
  have hC0 := hide (commit_sound (out := []) hi (by rw [grown_zero]; exact H) hc b hb (by simpa using hroom))
  have hpl := lt_of_block H.ks.blk
  have hlen : (a.logs i).length ≤ 120 := H.ks.loglen hi
  have hi0 : (0 : Int) ≤ (i : Int) := by omega
  have hi3 : (i : Int) < 3 := by omega
  have HI0 := hide I0
  clear H I0
  unfold ptrTo at *
  go_enter Tryz.func205, Tryz.ntmps205
  go_upto_region 3 with (go_at_call 222; refine (unhide hC0).mono ?_; rintro r y ⟨rfl, st1, hs1, hk1⟩)
  have HC1 : Hid (CmAt w y p a i b c [b]) := ⟨sh, st1, unhide HI0, hs1, by simpa using hk1⟩
  clear hs1 hk1 HI0 hC0
  go_loopw [8, 9, 10] (fun v8 _ _ wr => v8 = .int .i64 0 ∧ ∃ out, CmAt w wr p a i b c out) (fun _ _ _ wr => 200 - sliceLen (wr.cell? ⟨p, 2 + i * 3, none⟩))
  case atStart => exact ⟨rfl, [b], unhide HC1⟩
  case round =>
    obtain ⟨rfl, out, sh1, st1, I, hs1, hk1⟩ := hrel
    clear HC1
    obtain ⟨c1, K1, F1, N1, e1, e2⟩ := id hk1
    have hgs := grown_self a i out
    obtain ⟨ad, cap, hlv, clog⟩ := K1.ks.logc hi
    rw [hgs, List.length_append] at hlv clog
    have hRM := hide (hasRoom_any K1.ks)
    rw [grown_sum a i hi] at hRM
    have HI := hide I
    have HK := hide hk1
    have HK1 := hide K1
    have hmes : 200 - sliceLen (wr.cell? ⟨p, 2 + i * 3, none⟩) = 200 - ((a.logs i).length + out.length) := by rw [clog]; rfl
    by_cases hr : a.count + out.length < 120
    · rw [decide_eq_true hr] at hRM
      obtain ⟨q, hq⟩ : ∃ q, q = (a.logs i).length + out.length + 1 := ⟨_, rfl⟩
      have hoL : out.length ≤ 120 := by omega
      have hNX := fun y (hy : Below wr.heap.size wr y) => hide (sinkNext_any y p (2 + i * 3) _ cap ad ((hy.cell (p := ⟨p, 2 + i * 3, none⟩) (lt_of_block K1.ks.blk)).trans clog) (by omega))
      rw [← hq] at hNX
      have hTK : ∃ (tb : ByteArray) (hv : Bool) (sh2 : Nat → List (Nat × Value)), (∀ y, Below wr.heap.size wr y → Calls Tryz.prog 223 #[.pointer (some ⟨p, 2 + i * 3 + 1, none⟩), .int .i64 q] y fun r w' => r = .returned (.tuple #[.agg #[.string tb], .bool hv]) ∧ TkAt wr w' p a.epoch (grown a i out).logs sh2 st1 c1 ∧ Far (fun k => k = p ∨ ShU (c1.nv i) (c1.mv i) k) y w') ∧
          ((hv = true ∧ look (sh1 i) (q : Int) = some (recS tb) ∧ sh2 = fun t => if t = i then delL (sh1 i) q else sh1 t) ∨ (hv = false ∧ look (sh1 i) (q : Int) = none ∧ sh2 = sh1)) := by
        rcases areS_look (K1.ks.are i hi) (q : Int) with ⟨tb, hl⟩ | hl
        · refine ⟨tb, true, _, ?_, .inl ⟨rfl, hl, rfl⟩⟩
          intro y hy
          have Ky := K1.far (far_below (E := fun _ => False) hy) (fun _ _ h => h)
          refine (takeS_some (Ky.shAt hi) q tb hl).mono ?_
          rintro r w' ⟨rfl, hT⟩
          obtain ⟨c', h1, h2, h3, h4, h5⟩ := tkAt_took Ky hi hT (fun x hx => K1.ks.are i hi x ((delL_sub _ _).subset hx))
          exact ⟨rfl, ⟨c', h1, h2, (far_below (E := PkU p c1) hy).trans h3 (fun _ _ h => h), h4, h5⟩, hT.far⟩
        · refine ⟨⟨#[]⟩, false, _, ?_, .inr ⟨rfl, hl, rfl⟩⟩
          intro y hy
          have Ky := K1.far (far_below (E := fun _ => False) hy) (fun _ _ h => h)
          refine (takeS_none (Ky.shAt hi) q hl).mono ?_
          rintro r w' ⟨rfl, hT⟩
          exact ⟨rfl, ⟨c1, Ky.far (far_below (E := fun _ => False) hT) (fun _ _ h => h), fun _ h => h, (far_below (E := PkU p c1) hy).trans (far_below hT) (fun _ _ h => h), rfl, rfl⟩, far_below hT⟩
      have hEl : ∀ k, (k = p ∨ ShU (c1.nv i) (c1.mv i) k) → k < wr.heap.size := fun k hk => K1.ks.lt k (hk.elim .inl (fun h => .inr (.inr ⟨i, hi, h⟩)))
      have hUl : ∀ k, PkU p c1 k → k < wr.heap.size := K1.lt
      have hSort := (K1.ks.shs i hi).sorted
      have hN1 : ∀ k, PkU p c1 k → PkU p c k ∨ w.heap.size ≤ k := N1
      have hFw := F1
      obtain ⟨tb, hv, sh2, hT1, hT2⟩ := hTK
      have HT1 := hide hT1
      have HT2 := hide hT2
      have HQ := hide hq
      have HSORT := hide hSort
      have HMES := hide hmes
      have HFN := hide (And.intro hN1 (And.intro hFw (And.intro e1 e2)))
      clear hk1 K1 F1 N1 I hlv clog hgs hmes hT1 hT2 hq hSort hN1 hFw e1 e2
      unfold ptrTo at hRM
      go_upto_region 4 with (go_at_call 204; refine (unhide hRM).mono ?_; rintro r y ⟨rfl, rfl⟩)
      refine wp_region_key (by kernel_rfl)
        [fun v _ => v = .pointer (some ⟨p, 2 + i * 3, none⟩), fun v _ => v = .pointer (some ⟨p, 2 + i * 3, none⟩), fun v _ => v = .pointer (some ⟨p, 2 + i * 3 + 1, none⟩), fun v _ => v = .pointer (some ⟨p, 2 + i * 3, none⟩), fun v _ => v = .int .i64 q, fun v z => v = .tuple #[.agg #[.string tb], .bool hv] ∧ TkAt y z p a.epoch (grown a i out).logs sh2 st1 c1, fun v _ => v = .tuple #[.agg #[.string tb], .bool hv], fun v _ => v = .agg #[.string tb], fun v _ => v = .bool hv,
         fun v z => ∃ g x, v = .pointer (some ⟨g, 0, none⟩) ∧ y.heap.size ≤ g ∧ z.heap[g]? = some (.cells #[.string x] 235 (0, 0)), fun v z => ∃ g, v = .pointer (some ⟨g, 0, none⟩) ∧ y.heap.size ≤ g ∧ z.heap[g]? = some (.cells #[.string tb] 235 (0, 0)), fun v _ => v = .bool hv]
        [[(7, none)], [(27, some 0)], [(28, some 1)], [(7, none)], [(30, some 3)], [(29, some 2), (31, some 4)], [(32, some 5)], [(26, some 6)], [(26, some 6)], [], [(9, some 9), (33, some 7)], [(34, some 8)]] [27, 28, 29, 30, 31, 32, 26, 33, 34, 9, 9, 10] [false, false, false, false, false, false, false, false, false, true, true, false, false, false, false, false, false, false, false, false, false, false, false, false, false, false, true, true, true, true, true, true, true, true, true, false, false, false, false, false, false, false, false]
        [(5, fun k => k = p ∨ ShU (c1.nv i) (c1.mv i) k), (10, fun k => y.heap.size ≤ k)]
        10 RecKept recKept_refl
        (by kernel_rfl) (by kernel_rfl) (by kernel_rfl) (by kernel_rfl) (by kernel_rfl) (by kernel_rfl) ?_ ?_ ?_ ?_
      · repeat' (first | exact stable_eq _ | exact stable_true | exact (fun _ u z h hb => ⟨h.1, h.2.far hUl (far_below (E := fun _ => False) hb) (fun _ h => h.elim)⟩) | exact (fun _ u z h hb => h.imp fun _ h => h.imp fun _ h => ⟨h.1, h.2.1, (hb.block _ (lt_of_block h.2.2)).trans h.2.2⟩) | exact (fun _ u z h hb => h.imp fun _ h => ⟨h.1, h.2.1, (hb.block _ (lt_of_block h.2.2)).trans h.2.2⟩) | exact trivial | apply And.intro)
      · refine ⟨?_, ?_, trivial⟩
        · repeat' (first | exact trivial | exact .inl rfl | exact .inr (.inr (stableX_of (stableF_eq _ _))) | exact .inr (.inr (stableX_of (fun _ u z h hF => h.imp fun g h => h.imp fun _ h => ⟨h.1, h.2.1, hF.blk h.2.2 (fun e => by have := hEl g e; omega)⟩))) | exact .inr (.inr (stableX_of (fun _ u z h hF => h.imp fun g h => ⟨h.1, h.2.1, hF.blk h.2.2 (fun e => by have := hEl g e; omega)⟩))) | apply And.intro)
        · repeat' (first | exact trivial | exact .inl rfl | exact .inr (.inr (stableX_of (stableF_eq _ _))) | exact .inr (.inr (stableX_of (fun _ u z h hF => ⟨h.1, h.2.far hUl hF (fun _ h => h)⟩))) | exact .inr (.inr (fun _ u z h _ hX => h.imp fun g h => by obtain ⟨x, h1, h2, h3⟩ := h; obtain ⟨x', h4⟩ := hX rfl g x h3; exact ⟨x', h1, h2, h4⟩)) | apply And.intro)
      · refine ⟨?_, ?_, ?_, ?_, ?_, ?_, ?_, ?_, ?_, ?_, ?_, ?_, trivial⟩
        all_goals
          intro a' z hb hf
          simp only [PlanFacts, List.getD_cons_zero, List.getD_cons_succ, Array.getD_eq_getD_getElem?] at hf
          try simp at hf
        iterate 4
          · clear hb
            go_simp
            exact ⟨_, rfl, Far.refl _ _, rfl⟩
        · have hbz : Below y.heap.size y z := hb.below (Nat.le_refl _) (by
            rintro k hk ⟨q', hq', g1, g2, g3⟩
            simp at hq'
            rcases hq' with rfl | rfl
            · exact absurd (show depB _ 5 4 = false from g2) (by decide +kernel)
            · have g3 : y.heap.size ≤ k := g3
              omega)
          have HC := hide (unhide (hNX z hbz))
          clear hb hbz
          go_simp
          refine (unhide HC).mono ?_
          rintro r z2 ⟨rfl, rfl⟩
          exact ⟨_, rfl, Far.refl _ _, rfl⟩
        · have hbz : Below y.heap.size y z := hb.below (Nat.le_refl _) (by
            rintro k hk ⟨q', hq', g1, g2, g3⟩
            simp at hq'
            rcases hq' with rfl | rfl
            · exact g1 rfl
            · have g3 : y.heap.size ≤ k := g3
              omega)
          have HC := hide ((unhide HT1) z hbz)
          clear hb hbz
          go_simp
          refine (unhide HC).mono ?_
          rintro r z2 ⟨rfl, h1, h2⟩
          exact ⟨_, rfl, footOf_of (.head _) h2, ⟨rfl, h1⟩⟩
        · obtain ⟨hf, _⟩ := hf
          clear hb
          go_simp
          exact ⟨_, rfl, Far.refl _ _, rfl⟩
        iterate 2
          · clear hb
            go_simp
            exact ⟨_, rfl, Far.refl _ _, rfl⟩
        · have hzz := hb.size
          clear hb
          go_simp
          exact ⟨_, rfl, far_below ((Below.refl _ _).alloc (Nat.le_refl _) _), ⟨_, rfl, hzz, ⟨#[]⟩, heap_alloc_new _ _⟩⟩
        · obtain ⟨⟨g, hg1, hg2, x0, hg3⟩, hf33⟩ := hf
          clear hb
          have y0 : z.cell? ⟨g, 0, none⟩ = some (.string x0) := blk_cell (i := 0) hg3
          have yf : z.frozen? ⟨g, 0, none⟩ = false := blk_free (i := 0) hg3
          have HG := hide (And.intro hg2 hg3)
          clear hg2 hg3
          have hk9 := hg1
          go_simp
          obtain ⟨g1, g2⟩ := unhide HG
          refine ⟨footOf_of (.tail _ (.head _)) ((far_set z g 0 (.string tb)).mono (fun k _ e => by rw [e]; exact g1)), ⟨undef, g, ?_, g1, ?_⟩, ?_⟩
          · show a'.tmps.getD 9 undef = _
            rw [Array.getD_eq_getD_getElem?]
            exact hk9
          · have := blk_set (j := 0) (v := .string tb) g2
            simpa using this
          · exact recKept_set z g tb
        · clear hb
          go_simp
          exact ⟨_, rfl, Far.refl _ _, rfl⟩
      · intro f z hF hwd
        obtain ⟨_, hT⟩ := hwd.2.2.2.2.2.1
        obtain ⟨g, hg1, hg2, hg3⟩ := hwd.2.2.2.2.2.2.2.2.2.2.1
        have h10 := hwd.2.2.2.2.2.2.2.2.2.2.2.1
        clear hwd hF
        simp only [mergeT, hg1, h10]
        generalize f 26 = x26
        generalize f 27 = x27
        generalize f 28 = x28
        generalize f 29 = x29
        generalize f 30 = x30
        generalize f 31 = x31
        generalize f 32 = x32
        generalize f 33 = x33
        generalize f 34 = x34
        obtain ⟨hN1, hFw, e1, e2⟩ := unhide HFN
        obtain ⟨c2, K2, S2, F2, t1, t2⟩ := hT
        have hST : PkStep w z p a.epoch (grown a i out).logs sh2 st1 c := ⟨c2, K2, hFw.trans F2 (fun k hk hu => (hN1 k hu).elim id (fun h => by omega)), fun k hk => hN1 k (S2 k hk), t1.trans e1, t2.trans e2⟩
        have HST := hide hST
        have zb : z.cell? ⟨g, 0, none⟩ = some (.string tb) := blk_cell (i := 0) hg3
        have HK2 := hide K2
        have hlow : ∀ k, PkU p c2 k → PkU p c k ∨ w.heap.size ≤ k := fun k hk => hN1 k (S2 k hk)
        have hfz := hFw.trans F2 (fun k hk hu => (hN1 k hu).elim id (fun h => by omega))
        have HLOW := hide (And.intro hlow (And.intro hfz (And.intro (t1.trans e1) (t2.trans e2))))
        rcases unhide HT2 with ⟨rfl, hl, hsh⟩ | ⟨rfl, hl, hsh⟩
        · have hq := unhide HQ
          have I := unhide HI
          have hbt : tb.size ≤ 20 := M.bod _ ((I.on i hi q tb).1 hl).1
          rw [hq] at hl hsh
          have I2 := inCm_next G M hi I hr (unhide HSORT) hl
          rw [← hsh] at I2
          have hCM := hide (commit_sound (out := out) hi K2 hs1 tb hbt hr)
          have HI2 := hide I2
          unfold ptrTo at hCM
          clear hl hsh hq I I2 hST K2 S2 F2 hlow hfz hN1 hFw e1 e2 t1 t2 hg3 HT1 HT2 HQ HI HK HK1 HFN HST
          go_wp2_with (go_at_call 222; refine (unhide hCM).mono ?_; rintro r u ⟨rfl, st2, hs2, hk2⟩)
          have hmes := unhide HMES
          go_roundw
          case rel =>
            obtain ⟨hlow, hfz, t1, t2⟩ := unhide HLOW
            obtain ⟨c3, K3, F3, N3, s1, s2⟩ := hk2
            refine ⟨rfl, out ++ [tb], sh2, st2, unhide HI2, hs2, c3, K3, hfz.trans F3 (fun k hk hu => (hlow k hu).elim id (fun h => by omega)), fun k hk => ?_, s1.trans t1, s2.trans t2⟩
            have hsz := hfz.size
            rcases N3 k hk with h | h
            · exact hlow k h
            · exact .inr (Nat.le_trans hsz h)
          case measure =>
            obtain ⟨c3, K3, F3, N3, s1, s2⟩ := hk2
            obtain ⟨ad3, cap3, _, cl⟩ := K3.ks.logc hi
            rw [hmes, cl]
            show 200 - ((grown a i (out ++ [tb])).logs i).length < _
            rw [grown_self, List.length_append, List.length_append, List.length_singleton]
            have hcl := count_len (a := a) hi
            omega
        · have hq := unhide HQ
          have I := unhide HI
          rw [hq] at hl
          have HOUT := hide (inCm_stop hi I (.inr hl))
          subst hsh
          clear hl hq I hST K2 S2 F2 hlow hfz hN1 hFw e1 e2 t1 t2 hg3 HT1 HT2 HQ HK HK1 HFN HLOW HK2
          go_wp2
          go_ret
          exact ⟨rfl, out, ⟨_, st1, unhide HI, hs1, unhide HST⟩, unhide HOUT⟩
    · rw [decide_eq_false hr] at hRM
      have HST := hide (inCm_stop hi I (.inl hr))
      clear hk1 K1 F1 N1 I hlv clog hgs hmes
      unfold ptrTo at hRM
      go_wp2_with (go_at_call 204; refine (unhide hRM).mono ?_; rintro r y ⟨rfl, rfl⟩)
      go_ret
      exact ⟨rfl, out, ⟨sh1, st1, unhide HI, hs1, unhide HK⟩, unhide HST⟩
end Go.Proofs.YtamafdcnbcoegaaGreat
namespace Go.Proofs.YtamafdcnbcoegaaGreat
open Go.RowKit

theorem onSh_ix {a : Mod.Sk} {sh : Nat → List (Nat × Value)} (O : OnSh a.held sh) (A : ∀ s, s < 3 → AreS (sh s)) {s : Nat} (hs : s < 3) (q : Nat) : (look (sh s) (q : Int)).isSome = (a.ix s q).isSome := by
  cases h : a.ix s q with
  | none =>
    rcases areS_look (A s hs) (q : Int) with ⟨b, hl⟩ | hl
    · exact absurd ((O s hs q b).1 hl) (ix_none h b)
    · rw [hl]; rfl
  | some i =>
    rw [(O s hs q _).2 (ix_some h)]
    rfl
theorem ack_same {a : Mod.Sk} {sh : Nat → List (Nat × Value)} (O : OnSh a.held sh) (A : ∀ s, s < 3 → AreS (sh s)) {s : Nat} (hs : s < 3) (up : Nat) : ∀ j, ackTo (sh s) up j = ackBits a s up j
  | 0 => rfl
  | j + 1 => by rw [ackTo, ackBits, ack_same O A hs up j, onSh_ix O A hs]
theorem ack_body_same {a : Mod.Sk} {sh : Nat → List (Nat × Value)} (O : OnSh a.held sh) (A : ∀ s, s < 3 → AreS (sh s)) {s : Nat} (hs : s < 3) (up : Nat) : (⟨#[UInt8.ofNat (ackTo (sh s) up 3)]⟩ : ByteArray) = ackBody a s up := by
  rw [ack_same O A hs up 3]
  rfl
/-- Where the committing ends. -/
theorem commitFrom_end {a : Mod.Sk} {st q n : Nat} : ∀ (f : Nat) (out : List ByteArray), 120 ≤ n + out.length + f → ¬ (n + (a.commitFrom st q n f out).length < 120) ∨ a.ix st (q + (a.commitFrom st q n f out).length) = none
  | 0, out, h => .inl (by show ¬ (n + out.length < 120); omega)
  | f + 1, out, h => by
    by_cases hr : n + out.length < 120
    · cases hi : a.ix st (q + out.length) with
      | none => rw [Mod.Sk.commitFrom_none hr hi]; exact .inr hi
      | some i =>
        rw [Mod.Sk.commitFrom_some hr hi]
        exact commitFrom_end f _ (by simp; omega)
    · rw [Mod.Sk.commitFrom_stop hr]; exact .inl hr
theorem skMore_new : SkMore { epoch := 0, logs := fun _ => [], held := [] } := ⟨fun h hh => by simp at hh, fun _ s _ b hb => by simp at hb⟩
theorem skMore_hold {a : Mod.Sk} (M : SkMore a) (s q : Nat) (b : ByteArray) (hb : b.size ≤ 20) : SkMore (holdIt a s q b) := by
  unfold holdIt
  split
  · rename_i h
    obtain ⟨h1, h2, h3⟩ := h
    refine ⟨fun x hx => ?_, fun hr t ht c hc => ?_⟩
    · simp only [List.mem_append, List.mem_singleton] at hx
      rcases hx with hx | rfl
      · exact M.bod x hx
      · exact hb
    · simp only [List.mem_append, List.mem_singleton] at hc
      rcases hc with hc | hc
      · exact M.nxt hr t ht c hc
      · injection hc with e1 e2
        injection e2 with e2 e3
        subst e1
        omega
  · exact M
theorem skMore_take {a : Mod.Sk} (M : SkMore a) (s : Nat) (b : ByteArray) (hs : s < 3) (hroom : a.count < 120) : SkMore (takeIt a s (a.commitFrom s ((a.logs s).length + 1) a.count 120 [b])) := by
  have hend := commitFrom_end (a := a) (st := s) (q := (a.logs s).length + 1) (n := a.count) 120 [b] (by omega)
  obtain ⟨got, hg⟩ : ∃ got, got = a.commitFrom s ((a.logs s).length + 1) a.count 120 [b] := ⟨_, rfl⟩
  rw [← hg] at hend ⊢
  have hcount : (takeIt a s got).count = a.count + got.length := grown_count a s hs got
  refine ⟨fun x hx => M.bod x (List.mem_filter.1 (show x ∈ a.held.filter _ from hx)).1, fun hr t ht c hc => ?_⟩
  rw [hcount] at hr
  have hc' : (t, ((takeIt a s got).logs t).length + 1, c) ∈ a.held := (List.mem_filter.1 (show _ ∈ a.held.filter _ from hc)).1
  by_cases e : t = s
  · subst e
    rw [takeIt_logs, List.length_append] at hc'
    rcases hend with h | h
    · exact h hr
    · rw [show (a.logs t).length + 1 + got.length = (a.logs t).length + got.length + 1 by omega] at h
      exact ix_none h c hc'
  · have hl : (takeIt a s got).logs t = a.logs t := by
      show (if t = s then _ else a.logs t) = _
      rw [if_neg e]
    rw [hl] at hc'
    exact M.nxt hroom t ht c hc'
theorem skMore_hello {a : Mod.Sk} (M : SkMore a) (e : Nat) : SkMore (helloIt a e) := by
  unfold helloIt helloHeld
  split
  · exact ⟨fun x hx => by simp at hx, fun _ t _ c hc => by simp at hc⟩
  · exact ⟨M.bod, M.nxt⟩
/-- What is committed by a Data that is the next one, while there is room. -/
theorem commits_some {a : Mod.Sk} {s : Nat} {b : ByteArray} (hroom : a.count < 120) : a.commits 3 a.epoch s ((a.logs s).length + 1 : Nat) b = a.commitFrom s ((a.logs s).length + 1) a.count 120 [b] := by
  unfold Mod.Sk.commits
  rw [if_neg (by simp), if_neg (by omega)]
  simp
theorem commits_other {a : Mod.Sk} {s q : Nat} {b : ByteArray} (h : ¬ (q = (a.logs s).length + 1 ∧ a.count < 120)) : a.commits 3 a.epoch s q b = [] := by
  unfold Mod.Sk.commits
  by_cases h1 : q = (a.logs s).length + 1
  · rw [if_neg (by simp [h1]), if_pos (by omega)]
  · rw [if_pos (by right; right; simp; omega)]
theorem skAfter_take {a : Mod.Sk} {s : Nat} {b : ByteArray} (hroom : a.count < 120) : skAfter a 3 a.epoch s ((a.logs s).length + 1) b = takeIt a s (a.commitFrom s ((a.logs s).length + 1) a.count 120 [b]) := by
  unfold skAfter
  rw [commits_some hroom, if_neg (commitFrom_ne (by simp))]
theorem skAfter_hold {a : Mod.Sk} {s q : Nat} {b : ByteArray} (h : ¬ (q = (a.logs s).length + 1 ∧ a.count < 120)) : skAfter a 3 a.epoch s q b = holdIt a s q b := by
  unfold skAfter
  rw [commits_other h, if_pos rfl]
theorem skMore_after {a : Mod.Sk} (M : SkMore a) (s q : Nat) (b : ByteArray) (hs : s < 3) (hb : b.size ≤ 20) : SkMore (skAfter a 3 a.epoch s q b) := by
  by_cases h : q = (a.logs s).length + 1 ∧ a.count < 120
  · obtain ⟨rfl, hr⟩ := h
    rw [skAfter_take hr]
    exact skMore_take M s b hs hr
  · rw [skAfter_hold h]
    exact skMore_hold M s q b hb
/-- What lies on the shelves when a record is held. -/
theorem onSh_hold {a : Mod.Sk} {sh : Nat → List (Nat × Value)} (O : OnSh a.held sh) (s q : Nat) (b : ByteArray) (hs : s < 3) (hq : a.ix s q = none) : OnSh (a.held ++ [(s, q, b)]) (fun t => if t = s then putL (sh s) q (recS b) else sh t) := by
  intro t ht n c
  show look (if t = s then _ else sh t) _ = _ ↔ _
  rw [List.mem_append, List.mem_singleton]
  by_cases e : t = s
  · subst e
    rw [if_pos rfl, look_putL]
    unfold putF
    by_cases h1 : (n : Int) = (q : Int)
    · have h1' : n = q := by omega
      subst h1'
      rw [if_pos rfl]
      constructor
      · intro h
        injection h with h
        unfold recS at h
        injection h with h
        have : c = b := by
          have := congrArg Array.toList h
          simp at this
          exact this.symm
        subst this
        exact .inr rfl
      · rintro (h | h)
        · exact absurd h (ix_none hq c)
        · injection h with _ h
          injection h with _ h
          rw [h]
    · rw [if_neg h1, O t ht n c]
      constructor
      · exact .inl
      · rintro (h | h)
        · exact h
        · injection h with _ h
          injection h with h _
          omega
  · rw [if_neg e, O t ht n c]
    constructor
    · exact .inl
    · rintro (h | h)
      · exact h
      · injection h with h _
        exact absurd h e
theorem onSh_nil : OnSh [] (fun _ => []) := by
  intro t _ n c
  simp [look]
/-- A frame in the box that lies first behind w; else nothing has changed. -/
structure BoxAt (w : World) (cs : Array Value) (x : World) : Prop where
  box : x.heap[w.heap.size]? = some (.cells cs 41 (0, 0))
  bel : Below w.heap.size w x
theorem boxAt_new (w : World) (cs : Array Value) : BoxAt w cs (w.alloc (.cells cs 41)) := ⟨heap_alloc_new _ _, (Below.refl _ _).alloc (Nat.le_refl _) _⟩
theorem BoxAt.lt {w x : World} {cs : Array Value} (h : BoxAt w cs x) : w.heap.size < x.heap.size := lt_of_block h.box
theorem BoxAt.below {w x y : World} {cs : Array Value} (h : BoxAt w cs x) (hb : Below x.heap.size x y) : BoxAt w cs y :=
  ⟨(hb.block _ h.lt).trans h.box, h.bel.trans (hb.mono h.bel.size)⟩
theorem BoxAt.drewN {w x : World} {cs : Array Value} (h : BoxAt w cs x) (n : Nat) : BoxAt w cs (x.drewN n) := h.below (below_drewN (Below.refl _ _) n)
/-- Behind a call that may change a sink: what it is then. -/
def SkIs (w x : World) (p : Nat) (a : Mod.Sk) (c : Sv) : Prop := ∃ sh st, PkStep w x p a.epoch a.logs sh st c ∧ Sound st ∧ OnSh a.held sh
theorem SkIs.behind {w x y : World} {p : Nat} {a : Mod.Sk} {c : Sv} (h : SkIs x y p a c) (hb : Below w.heap.size w x) : SkIs w y p a c := by
  obtain ⟨sh, st, ⟨c', h1, h2, h3, h4, h5⟩, hs, ho⟩ := h
  exact ⟨sh, st, ⟨c', h1, (far_below (E := PkU p c) hb).trans h2 (fun _ _ h => h), fun k hk => (h3 k hk).imp id (fun h => Nat.le_trans hb.size h), h4, h5⟩, hs, ho⟩
theorem SkIs.below {w x y : World} {p : Nat} {a : Mod.Sk} {c : Sv} (h : SkIs w x p a c) (hb : Below x.heap.size x y) : SkIs w y p a c := by
  obtain ⟨sh, st, hk, hs, ho⟩ := h
  exact ⟨sh, st, hk.below hb, hs, ho⟩
theorem skIs_refl {w : World} {p : Nat} {a : Mod.Sk} {sh : Nat → List (Nat × Value)} {st : Mod.Stv} {c : Sv} (H : PkAt w p a.epoch a.logs sh st c) (hs : Sound st) (O : OnSh a.held sh) : SkIs w w p a c := ⟨sh, st, pkStep_refl H, hs, O⟩
/-- A shelf of a sink has few things. -/
theorem onSh_small {a : Mod.Sk} {sh : Nat → List (Nat × Value)} (G : SkGood a) (O : OnSh a.held sh) (A : ∀ s, s < 3 → AreS (sh s)) {s : Nat} (hs : s < 3) (hsort : ((sh s).map (·.1)).Pairwise (· < ·)) : (sh s).length < 1000 := by
  have hin : ∀ n ∈ (sh s).map (·.1), (a.logs s).length + 1 ≤ n ∧ n ≤ (a.logs s).length + 4 := by
    intro n hn
    have hc : (look (sh s) (n : Int)).isSome = true := by rw [look_isSome]; simpa using hn
    rcases areS_look (A s hs) (n : Int) with ⟨b, hl⟩ | hl
    · have hm := (O s hs n b).1 hl
      exact (G.held _ hm).2
    · rw [hl] at hc; cases hc
  have h1 : (((sh s).map (·.1)).map fun n => n - (a.logs s).length - 1).Nodup := by
    rw [List.Nodup, List.pairwise_map]
    refine hsort.imp_of_mem (fun {x y} hx hy hlt e => ?_)
    have gx := hin x hx
    have gy := hin y hy
    omega
  have h2 := nodup_lt 4 _ h1 (fun n hn => by
    obtain ⟨m, hm, rfl⟩ := List.mem_map.1 hn
    have := hin m hm
    omega)
  simp at h2
  omega
end Go.Proofs.YtamafdcnbcoegaaGreat
namespace Go.Proofs.YtamafdcnbcoegaaGreat
open Go.RowKit

set_option maxRecDepth 100000 in
set_option maxHeartbeats 4000000 in
theorem take_any {w : World} {p : Nat} {a : Mod.Sk} {sh : Nat → List (Nat × Value)} {st : Mod.Stv} {c : Sv} (H : PkAt w p a.epoch a.logs sh st c) (hs : Sound st) (G : SkGood a) (M : SkMore a) (O : OnSh a.held sh) (e : Int) (i q : Nat) (hi : i < 3) (hq : q ≤ 2147483647) (b : ByteArray) (hb : b.size ≤ 20) :
    Calls Tryz.prog 163 #[ptrTo p, .agg #[.int .i64 3, .int .i64 e, .int .i64 i, .int .i64 q, .string b]] w fun r w' => r = .returned (.int .i64 0) ∧ SkIs w w' p (skAfter a 3 a.epoch i q b) c := by
  have hpl := lt_of_block H.ks.blk
  obtain ⟨ad, cap, hlv, clog⟩ := H.ks.logc hi
  have hll := H.ks.loglen hi
  obtain ⟨n1, hn1⟩ : ∃ n1, n1 = (a.logs i).length + 1 := ⟨_, rfl⟩
  obtain ⟨d, hd⟩ : ∃ d : Int, d = (q : Int) - (n1 : Int) := ⟨_, rfl⟩
  have hw : IntKind.i64.wrap ((q : Int) - (n1 : Int)) = d := by rw [IntKind.wrap_i64]; omega
  have hNX := fun y (hy : Below w.heap.size w y) => hide (sinkNext_any y p (2 + i * 3) _ cap ad ((hy.cell (p := ⟨p, 2 + i * 3, none⟩) hpl).trans clog) (by omega))
  rw [← hn1] at hNX
  have hHR := fun y (hy : Below w.heap.size w y) => hide (hasRoom_any (H.ks.far (far_below (E := fun _ => False) hy) (fun _ _ h => h)))
  have hPK := fun y (hy : Below w.heap.size w y) => hide (H.far (far_below (E := fun _ => False) hy) (fun _ _ h => h))
  obtain ⟨room, hroom⟩ : ∃ room, room = decide ((a.logs 0).length + (a.logs 1).length + (a.logs 2).length < 120) := ⟨_, rfl⟩
  rw [← hroom] at hHR
  have hi0 : (0 : Int) ≤ (i : Int) := by omega
  have hi3 : (i : Int) < 3 := by omega
  have HD := hide (And.intro hn1 (And.intro hd (And.intro hroom hll)))
  have HH := hide H
  have hBX := hide (boxAt_new w #[.int .i64 3, .int .i64 e, .int .i64 i, .int .i64 q, .string b])
  clear H hlv clog hn1 hd hroom
  unfold ptrTo at *
  go_enter Tryz.func163, Tryz.ntmps163
  go_upto_region 1 with fail
  refine wp_world (BoxAt w #[.int .i64 3, .int .i64 e, .int .i64 i, .int .i64 q, .string b]) (unhide hBX) ?_
  clear hBX
  intro x X
  have y2 := blk_cell (i := 2) X.box
  have y3 := blk_cell (i := 3) X.box
  simp at y2 y3
  have hXb := X.bel
  have HX := hide X
  clear X
  go_quiet (fail)
  go_upto_region 2 with fail
  refine wp_world (BoxAt w #[.int .i64 3, .int .i64 e, .int .i64 i, .int .i64 q, .string b]) ((unhide HX).drewN _) ?_
  clear HX y2 y3 hXb
  intro x2 X
  have y3 := blk_cell (i := 3) X.box
  simp at y3
  have hN := fun n => hide (unhide (hNX (x2.drewN n) (X.drewN n).bel))
  have HX := hide X
  clear X hNX
  go_quiet (first | (go_at_call 158; exact Calls.quiet_of_same (unhide (hN _))))
  go_upto_region 3 with fail
  refine wp_world (BoxAt w #[.int .i64 3, .int .i64 e, .int .i64 i, .int .i64 q, .string b]) (by first | exact unhide HX | exact (unhide HX).drewN _ | exact (unhide HX).drew | exact (unhide HX).drew.drew) ?_
  clear HX y3 hN
  intro x3 X
  have y2 := blk_cell (i := 2) X.box
  have y3 := blk_cell (i := 3) X.box
  have y4 := blk_cell (i := 4) X.box
  simp at y2 y3 y4
  have hHX := hide (unhide (hHR x3 X.bel))
  have HPX := unhide (hPK x3 X.bel)
  have HX := hide X
  clear X hHR hPK
  have hstay := hide ((skIs_refl HPX hs O).behind (unhide HX).bel)
  by_cases hd0 : d = 0
  · have hq1 : q = (a.logs i).length + 1 := by obtain ⟨h1, h2, _⟩ := unhide HD; omega
    have HQ1 := hide hq1
    clear hq1
    subst hd0
    cases hrv : room
    · have hnr : ¬ (q = (a.logs i).length + 1 ∧ a.count < 120) := by
        have h := (unhide HD).2.2.1
        rw [hrv] at h
        have h := of_decide_eq_false h.symm
        exact fun h' => h h'.2
      have hno : skAfter a 3 a.epoch i q b = a := by
        rw [skAfter_hold hnr, holdIt, if_neg (fun h => by have := unhide HQ1; omega)]
      rw [hrv] at hHX
      have HNO := hide hno
      clear HPX hnr hno hrv
      go_upto_region 5 with (go_at_call 204; refine (unhide hHX).mono ?_; rintro r y ⟨rfl, rfl⟩)
      go_quiet (fail)
      go_wp2
      go_ret
      exact ⟨rfl, by rw [unhide HNO]; exact (unhide hstay).below (below_drewN (Below.refl _ _) _)⟩
    · have hr : a.count < 120 := by
        have h := (unhide HD).2.2.1
        rw [hrv] at h
        exact of_decide_eq_true h.symm
      have hCF := hide (commitFrom_any HPX hs G M O i hi b hb hr)
      rw [hrv] at hHX
      have HR := hide hr
      unfold ptrTo at hCF
      clear HPX hrv hr
      go_wp2_with (first | (go_at_call 204; refine (unhide hHX).mono ?_; rintro r y ⟨rfl, rfl⟩) | (go_at_call 205; refine (unhide hCF).mono ?_; rintro r y ⟨rfl, out, ⟨sh2, st2, I, hs2, hk2⟩, hout⟩))
      go_ret
      refine ⟨rfl, ?_⟩
      rw [unhide HQ1, skAfter_take (unhide HR), ← hout]
      exact SkIs.behind ⟨sh2, st2, hk2, hs2, inCm_on I⟩ (unhide HX).bel
  · have hdb : (d == 0) = false := by simpa using hd0
    have hnr : ¬ (q = (a.logs i).length + 1 ∧ a.count < 120) := fun h => by obtain ⟨h1, h2, _⟩ := unhide HD; omega
    have hsk := skAfter_hold (b := b) hnr
    clear hnr
    by_cases h1 : 1 ≤ d
    · by_cases h3 : d ≤ 3
      · have hHas := hide (hasS_any HPX.ks.blk (HPX.ks.am i hi) (HPX.ks.shs i hi) (HPX.ks.are i hi) (q : Int))
        have hsort := (HPX.ks.shs i hi).sorted
        have hix := onSh_ix O HPX.ks.are hi q
        have hsm := onSh_small G O HPX.ks.are hi hsort
        obtain ⟨ho, hho⟩ : ∃ ho, ho = (look (sh i) (q : Int)).isSome := ⟨_, rfl⟩
        have hHas := fun y (hy : Below x3.heap.size x3 y) => hide (hasS_any (HPX.far (far_below (E := fun _ => False) hy) (fun _ _ h => h)).ks.blk (HPX.ks.am i hi) ((HPX.far (far_below (E := fun _ => False) hy) (fun _ _ h => h)).ks.shs i hi) (HPX.ks.are i hi) (q : Int))
        rw [← hho] at hHas hix
        have hPut := fun z (hz : Below x3.heap.size x3 z) => hide (putS_any ((HPX.far (far_below (E := fun _ => False) hz) (fun _ _ h => h)).shAt hi) hsm q b)
        have hgx := (unhide HX).lt
        have HPX2 := hide HPX
        have HSM := hide (And.intro hsort (And.intro hix hho))
        have HSK := hide hsk
        clear HPX hho hix hsort hsm hsk
        go_upto_region 5 with fail
        refine wp_region_frame (by kernel_rfl)
          [fun v _ => v = .int .i64 d, fun v _ => v = .bool true, fun v _ => v = .bool true, fun v _ => v = .int .i64 d, fun v _ => v = .bool true, fun v _ => v = .bool true, fun v _ => v = .bool true,
           fun v _ => v = .pointer (some ⟨p, 2 + i * 3, none⟩), fun v _ => v = .pointer (some ⟨p, 2 + i * 3, none⟩), fun v _ => v = .pointer (some ⟨p, 2 + i * 3 + 1, none⟩), fun v _ => v = .pointer (some ⟨w.heap.size, 3, none⟩), fun v _ => v = .int .i64 q, fun v _ => v = .bool ho, fun v _ => v = .bool (!ho), fun v _ => v = .bool (!ho), fun v _ => v = .bool (!ho)]
          [[(6, none)], [(32, some 0)], [(33, some 1)], [(6, none), (34, some 2)], [(35, some 3), (34, some 2)], [(34, some 2), (36, some 4)], [(37, some 5)], [(5, none), (38, some 6)], [(39, some 7), (38, some 6)], [(40, some 8), (38, some 6)], [(3, none), (38, some 6)], [(42, some 10), (38, some 6)], [(41, some 9), (43, some 11), (38, some 6)], [(44, some 12), (38, some 6)], [(38, some 6), (45, some 13)], [(46, some 14)]] [some 32, some 33, some 34, some 35, some 36, some 37, some 38, some 39, some 40, some 41, some 42, some 43, some 44, some 45, some 46, some 31] [false, false, false, false, false, false, false, false, false, false, false, false, false, false, false, false, false, false, false, false, false, false, false, false, false, false, false, false, false, false, false, true, true, true, true, true, true, true, true, true, true, true, true, true, true, true, true, false, false, false, false, false, false, false, false, false]
          (by kernel_rfl) (by kernel_rfl) (by kernel_rfl) (by kernel_rfl) ?_ ?_ ?_
        · repeat' (first | exact stable_eq _ | exact trivial | apply And.intro)
        · refine ⟨?_, ?_, ?_, ?_, ?_, ?_, ?_, ?_, ?_, ?_, ?_, ?_, ?_, ?_, ?_, ?_, trivial⟩
          all_goals
            intro a' z hbz hf
            have z3 := (hbz.cell (p := ⟨w.heap.size, 3, none⟩) hgx).trans y3
            have HZ := hide (unhide (hHas z hbz))
            clear hbz hHas hPut
            simp only [PlanFacts, List.getD_cons_zero, List.getD_cons_succ, Array.getD_eq_getD_getElem?] at hf
            try simp at hf
            try (have hg : a'.tmps[34]? = some (.bool true) := tmpB (by first | exact hf | exact hf.1 | exact hf.2 | exact hf.2.2))
            try (have hg2 : a'.tmps[38]? = some (.bool true) := tmpB (by first | exact hf | exact hf.1 | exact hf.2 | exact hf.2.2))
            try go_simp
            try simp only [hg, if_true]
            try simp only [hg2, if_true]
            try go_simp
            try exact Below.refl _ _
          all_goals first
            | exact ⟨rfl, Below.refl _ _⟩
            | exact ⟨_, rfl, Below.refl _ _, rfl⟩
            | (refine (unhide HZ).mono ?_; rintro e x' ⟨rfl, hb⟩; exact ⟨rfl, hb⟩)
            | (refine (unhide HZ).mono ?_; rintro e x' ⟨rfl, hb⟩; exact ⟨_, rfl, hb, rfl⟩)
            | skip
        · intro f z hbz hwd
          simp only [AllWords] at hwd
          have h15 := hwd.2.2.2.2.2.2.2.2.2.2.2.2.2.2.2.1
          clear hwd
          simp only [mergeT, h15]
          generalize f 32 = x32
          generalize f 33 = x33
          generalize f 34 = x34
          generalize f 35 = x35
          generalize f 36 = x36
          generalize f 37 = x37
          generalize f 38 = x38
          generalize f 39 = x39
          generalize f 40 = x40
          generalize f 41 = x41
          generalize f 42 = x42
          generalize f 43 = x43
          generalize f 44 = x44
          generalize f 45 = x45
          generalize f 46 = x46
          have z3 := (hbz.cell (p := ⟨w.heap.size, 3, none⟩) hgx).trans y3
          have z4 := (hbz.cell (p := ⟨w.heap.size, 4, none⟩) hgx).trans y4
          have HBZ := hide hbz
          have hPz := unhide (hPut z hbz)
          cases ho
          · have hhold : holdIt a i q b = { a with held := a.held ++ [(i, q, b)] } := by
              obtain ⟨e1, e2, _⟩ := unhide HD
              have hix := (unhide HSM).2.1
              rw [holdIt, if_pos ⟨by omega, by omega, by cases h : a.ix i q with | none => rfl | some v => rw [h] at hix; cases hix⟩]
            have hixn : a.ix i q = none := by
              have hix := (unhide HSM).2.1
              cases h : a.ix i q with | none => rfl | some v => rw [h] at hix; cases hix
            have HHO := hide (And.intro hhold hixn)
            have HPZ := fun y (hy : Below z.heap.size z y) => hide (unhide (hPut y (hbz.trans (hy.mono hbz.size))))
            simp only [recS] at HPZ
            have hgz : w.heap.size < z.heap.size := Nat.lt_of_lt_of_le hgx hbz.size
            clear hbz hPz hhold hixn hHas hPut y2 y3 y4
            go_upto_region 6 with fail
            refine wp_region_last (by kernel_rfl)
              [fun v _ => v = .pointer (some ⟨p, 2 + i * 3, none⟩), fun v _ => v = .pointer (some ⟨p, 2 + i * 3, none⟩), fun v _ => v = .pointer (some ⟨p, 2 + i * 3 + 1, none⟩), fun v _ => v = .pointer (some ⟨w.heap.size, 3, none⟩), fun v _ => v = .int .i64 q, fun v _ => v = .pointer (some ⟨w.heap.size, 4, none⟩), fun v _ => v = .string b, fun v _ => v = .agg #[.string b], fun _ _ => True]
              [[(5, none)], [(47, some 0)], [(48, some 1)], [(3, none)], [(50, some 3)], [(3, none)], [(52, some 5)], [(53, some 6)], [(49, some 2), (51, some 4), (54, some 7)]] [some 47, some 48, some 49, some 50, some 51, some 52, some 53, some 54, some 55] [false, false, false, false, false, false, false, false, false, false, false, false, false, false, false, false, false, false, false, false, false, false, false, false, false, false, false, false, false, false, false, false, false, false, false, false, false, false, false, false, false, false, false, false, false, false, false, true, true, true, true, true, true, true, true, true]
              8 _ rfl rfl (by kernel_rfl) (by kernel_rfl) (by kernel_rfl) (by kernel_rfl) (by kernel_rfl) (by kernel_rfl) ?_ ?_ ?_
            · repeat' (first | exact stable_eq _ | exact stable_true | exact trivial | apply And.intro)
            · refine ⟨?_, ?_, ?_, ?_, ?_, ?_, ?_, ?_, trivial⟩
              all_goals
                intro a' y hb hf
                have y3 := (hb.cell (p := ⟨w.heap.size, 3, none⟩) hgz).trans z3
                have y4 := (hb.cell (p := ⟨w.heap.size, 4, none⟩) hgz).trans z4
                clear hb
                simp only [PlanFacts, List.getD_cons_zero, List.getD_cons_succ, Array.getD_eq_getD_getElem?] at hf
                try simp at hf
                go_simp
                try exact ⟨_, rfl, Below.refl _ _, rfl⟩
                try exact Below.refl _ _
            · intro f2 y hby hwd
              simp only [AllWords, List.take] at hwd
              have g2 := hwd.2.2.1
              have g4 := hwd.2.2.2.2.1
              have g7 := hwd.2.2.2.2.2.2.2.1
              clear hwd
              have HPY := hide (unhide (HPZ y hby))
              have HBY := hide hby
              clear hby
              simp only [mergeT, g2, g4, g7]
              generalize f2 47 = x47
              generalize f2 48 = x48
              generalize f2 50 = x50
              generalize f2 52 = x52
              generalize f2 53 = x53
              go_simp
              refine (unhide HPY).mono ?_
              rintro r u ⟨rfl, hst⟩
              have HST := hide hst
              clear hst
              go_wp2
              go_ret
              refine ⟨rfl, ?_⟩
              obtain ⟨hhold, hixn⟩ := unhide HHO
              rw [unhide HSK, hhold]
              have hb1 : Below w.heap.size w y := (unhide HX).bel.trans (((unhide HBZ).trans ((unhide HBY).mono (unhide HBZ).size)).mono (unhide HX).bel.size)
              have hb2 : Below x3.heap.size x3 y := (unhide HBZ).trans ((unhide HBY).mono (unhide HBZ).size)
              have HPy := (unhide HPX2).far (far_below (E := fun _ => False) hb2) (fun _ _ h => h)
              refine SkIs.behind ⟨_, st, pkStep_sh HPy hi (unhide HST) ?_, hs, onSh_hold O i q b hi hixn⟩ hb1
              intro x hx
              rcases mem_putL hx with rfl | hx
              · exact ⟨b, rfl⟩
              · exact HPy.ks.are i hi x hx
          · have hhold : holdIt a i q b = a := by
              have hix := (unhide HSM).2.1
              rw [holdIt, if_neg (fun h => by rw [h.2.2] at hix; cases hix)]
            have HHO := hide hhold
            clear hbz hPz hhold hHas hPut
            go_wp2
            go_ret
            exact ⟨rfl, by rw [unhide HSK, unhide HHO]; exact (unhide hstay).below (unhide HBZ)⟩
      · have hhold : holdIt a i q b = a := by
          obtain ⟨e1, e2, _⟩ := unhide HD
          rw [holdIt, if_neg (fun h => by omega)]
        rw [hhold] at hsk
        have HNO := hide hsk
        clear HPX hhold hsk
        go_upto_region 5 with fail
        go_quiet (fail)
        go_wp2
        go_ret
        exact ⟨rfl, by rw [unhide HNO]; exact (unhide hstay).below (below_drewN (Below.refl _ _) _)⟩
    · have hhold : holdIt a i q b = a := by
        obtain ⟨e1, e2, _⟩ := unhide HD
        rw [holdIt, if_neg (fun h => by omega)]
      rw [hhold] at hsk
      have HNO := hide hsk
      clear HPX hhold hsk
      go_upto_region 5 with fail
      go_quiet (fail)
      go_wp2
      go_ret
      exact ⟨rfl, by rw [unhide HNO]; exact (unhide hstay).below (below_drewN (Below.refl _ _) _)⟩
end Go.Proofs.YtamafdcnbcoegaaGreat
namespace Go.Proofs.YtamafdcnbcoegaaGreat
open Go.RowKit

theorem numbersOf_any (e : Nat) (w : World) : Calls Tryz.prog 107 #[.int .i64 e] w fun r w' => r = .returned (.agg #[.int .i64 e, .int .i64 0, .int .i64 0]) ∧ Below w.heap.size w w' := by
  go_enter Tryz.func107, Tryz.ntmps107
  go_wp2
  refine bodyPost_ret (v := .agg #[.int .i64 e, .int .i64 0, .int .i64 0]) (by simp [results, Tryz.results107, go_sem]) rfl ⟨rfl, ?_⟩
  exact (Below.refl _ _).alloc (Nat.le_refl _) _
set_option maxHeartbeats 1000000 in
theorem resetOf_any (e : Nat) (w : World) : Calls Tryz.prog 159 #[.int .i64 e] w fun r w' => r = .returned (.agg #[.int .i64 5, .int .i64 e, .int .i64 0, .int .i64 0, .string ⟨#[]⟩]) ∧ Below w.heap.size w w' := by
  go_enter Tryz.func159, Tryz.ntmps159
  go_wp2
  refine bodyPost_ret (v := .agg #[.int .i64 5, .int .i64 e, .int .i64 0, .int .i64 0, .string ⟨#[]⟩]) (by simp [results, Tryz.results159, go_sem]) rfl ⟨rfl, ?_⟩
  first | exact (Below.refl _ _).alloc (Nat.le_refl _) _ | exact below_five ((Below.refl _ _).alloc (Nat.le_refl _) _) _ _ _ _ _
end Go.Proofs.YtamafdcnbcoegaaGreat
namespace Go.Proofs.YtamafdcnbcoegaaGreat
open Go.RowKit

/-- The Epoch is written into the sink's block. -/
theorem pkStep_ep {w : World} {p e : Nat} {logs : Nat → List ByteArray} {sh : Nat → List (Nat × Value)} {st : Mod.Stv} {c : Sv} (H : PkAt w p e logs sh st c) (e2 : Nat) (he : e2 ≤ 2147483647) :
    PkStep w (w.setCell ⟨p, 1, none⟩ (.int .i64 e2)) p e2 logs sh st c := by
  have hpl : ∀ j, j < 3 → (c.lv j).ownBlock ≠ some p := fun j hj => (H.ks.lgs j hj).ne H.ks.blk (by decide)
  have hps : ∀ j, j < 3 → ¬ ShU (c.nv j) (c.mv j) p := fun j hj => (H.ks.shs j hj).ne H.ks.blk (by decide)
  have hs := far_set w p 1 (.int .i64 e2)
  have hget : ∀ j, j ≠ 1 → (c.arr.setIfInBounds 1 (.int .i64 e2))[j]? = c.arr[j]? := fun j hj => Array.getElem?_setIfInBounds_ne (fun e => hj e.symm)
  have h1 : 1 < c.arr.size := by rw [H.ks.sz]; omega
  refine ⟨{ c with arr := c.arr.setIfInBounds 1 (.int .i64 e2) }, ⟨⟨blk_set H.ks.blk, by simpa using H.ks.sz, ?_, ?_, ?_, ?_, ?_, ?_, ?_, ?_, H.ks.are, H.ks.apl, H.ks.aps, H.ks.cnt, he⟩, H.stt.far hs (fun k hk h => H.sep k (.inl h) hk), H.rl.far hs (fun g hg h => (H.sepr g hg).1 (.inl h)), H.len⟩, hs.mono (fun k _ h => .inl (.inl h)), fun k hk => .inl hk, rfl, rfl⟩
  · rw [hget _ (by omega)]; exact H.ks.a0
  · simp [h1]
  · intro j hj; rw [hget _ (by omega)]; exact H.ks.al j hj
  · intro j hj; rw [hget _ (by omega)]; exact H.ks.an j hj
  · intro j hj; rw [hget _ (by omega)]; exact H.ks.am j hj
  · rw [hget _ (by omega)]; exact H.ks.ar
  · intro j hj; exact (H.ks.lgs j hj).far hs (fun g hg h => hpl j hj (by rw [hg, h]))
  · intro j hj; exact (H.ks.shs j hj).far hs (fun k hk h => hps j hj (by rw [← h]; exact hk))
theorem helloIt_same (a : Mod.Sk) : helloIt a a.epoch = a := by
  unfold helloIt helloHeld
  rw [if_neg (by omega)]
theorem onSh_cleared {sh : Nat → List (Nat × Value)} : OnSh [] (fun t => if t < 3 then [] else sh t) := by
  intro t ht n c
  show look (if t < 3 then [] else sh t) _ = _ ↔ _
  rw [if_pos ht]
  simp [look]

set_option maxRecDepth 100000 in
set_option maxHeartbeats 4000000 in
theorem begin_any {w : World} {p : Nat} {a : Mod.Sk} {sh : Nat → List (Nat × Value)} {st : Mod.Stv} {c : Sv} (H : PkAt w p a.epoch a.logs sh st c) (hs : Sound st) (O : OnSh a.held sh) (e : Nat) (he : a.epoch ≤ e) (hem : e ≤ 2147483647) :
    Calls Tryz.prog 160 #[ptrTo p, .int .i64 e] w fun r w' => r = .returned (.int .i64 0) ∧ SkIs w w' p (helloIt a e) c := by
  have c1 : w.cell? ⟨p, 1, none⟩ = some (.int .i64 a.epoch) := by rw [blk_cell H.ks.blk, H.ks.a1]
  by_cases heq : e = a.epoch
  · subst heq
    have HF := hide (skIs_refl H hs O)
    rw [helloIt_same]
    have hb : ((a.epoch : Int) == (a.epoch : Int)) = true := by simp
    clear H
    unfold ptrTo
    go_enter Tryz.func160, Tryz.ntmps160
    go_wp2
    go_ret
    exact ⟨rfl, unhide HF⟩
  obtain ⟨h0, hs2⟩ := sound_num hs e 0 0
  have hEp : helloIt a e = { a with epoch := e, held := [] } := by unfold helloIt helloHeld; rw [if_pos (by omega)]
  rw [hEp]
  have hWN := fun y (hy : StAt y c.s c.dp st c.dlv c.duv) => hide (writeNumbers_any y c.s c.dp st c.dlv c.duv hy e 0 0 (by omega) (by omega) (by omega))
  obtain ⟨st2, hst⟩ : ∃ st2, st2 = (st.putNumbers e 0 0).2 := ⟨_, rfl⟩
  rw [h0, ← hst] at hWN
  rw [← hst] at hs2
  have hlen2 : st2.dk.bytes.length = 7808 := by
    rw [hst]
    unfold Mod.Stv.putNumbers Mod.Dk.put
    simp only
    split
    · exact H.len
    · split
      · exact H.len
      · simp only
        have := H.stt.hd
        rw [Mod.length_setSec (Mod.length_sealB _ _ (by rw [Mod.length_headIn]; omega)) (by rw [H.len]; omega)]
        exact H.len
  have hne : ((e : Int) == (a.epoch : Int)) = false := by simp; omega
  have hpl := lt_of_block H.ks.blk
  have HH := hide H
  have hNO := fun y => hide (numbersOf_any e y)
  have HS2 := hide hs2
  obtain ⟨ep, hep⟩ : ∃ ep, ep = a.epoch := ⟨_, rfl⟩
  rw [← hep] at c1 hne HH
  clear H hst h0 hs2 hEp
  unfold ptrTo at *
  go_enter Tryz.func160, Tryz.ntmps160
  go_upto_region 3 with fail
  refine wp_region_foot (by kernel_rfl)
    [fun v _ => v = .pointer (some ⟨p, 0, none⟩), fun v _ => v = .pointer (some ⟨p, 0, none⟩), fun v _ => v = .pointer (some ⟨p, 0, none⟩), fun v _ => v = .pointer (some ⟨c.s, 0, none⟩), fun v _ => v = .int .i64 e, fun v _ => v = .agg #[.int .i64 e, .int .i64 0, .int .i64 0],
     fun v y => v = .int .i64 0 ∧ ∃ uv', StAt y c.s c.dp st2 c.dlv uv' ∧ Loc w c.duv uv', fun v _ => v = .int .i64 0]
    [[(0, none)], [(13, some 0)], [(14, some 1)], [(15, some 2)], [(1, none)], [(17, some 4)], [(16, some 3), (18, some 5)], [(19, some 6)]] [some 13, some 14, some 15, some 16, some 17, some 18, some 19, some 5] [false, false, false, false, false, true, false, false, false, false, false, false, false, true, true, true, true, true, true, true, false, false, false, false, false, false, false, false, false, false, false, false, false, false, false, false, false, false]
    [(6, StU c.s c.dp c.dlv c.duv)]
    (by kernel_rfl) (by kernel_rfl) (by kernel_rfl) (by kernel_rfl) (by kernel_rfl) ?_ ?_ ?_ ?_
  · repeat' (first | exact stable_eq _ | exact (fun _ _ _ h hb => ⟨h.1, h.2.imp fun _ h => ⟨h.1.far (far_below (E := fun _ => False) hb) (fun _ _ h => h), h.2⟩⟩) | exact trivial | apply And.intro)
  · repeat' (first | exact trivial | exact .inl rfl | exact .inr (.inr (stableF_eq _ _)) | apply And.intro)
  · refine ⟨?_, ?_, ?_, ?_, ?_, ?_, ?_, ?_, trivial⟩
    all_goals
      intro a' z hb hf
      simp only [PlanFacts, List.getD_cons_zero, List.getD_cons_succ, Array.getD_eq_getD_getElem?] at hf
      try simp at hf
    iterate 3
      · clear hb
        go_simp
        exact ⟨_, rfl, Far.refl _ _, rfl⟩
    · have z0 : z.cell? ⟨p, 0, none⟩ = some (.pointer (some ⟨c.s, 0, none⟩)) := by
        have := hb.blk (unhide HH).ks.blk (footBut_no (by intro q hq; simp at hq; subst hq; exact fun h => (unhide HH).sep p (.inl rfl) h))
        rw [blk_cell this, (unhide HH).ks.a0]
        rfl
      clear hb
      go_simp
      exact ⟨_, rfl, Far.refl _ _, rfl⟩
    · clear hb
      go_simp
      exact ⟨_, rfl, Far.refl _ _, rfl⟩
    · have HC := hide (unhide (hNO z))
      clear hb
      go_simp
      refine (unhide HC).mono ?_
      rintro r z2 ⟨rfl, hb2⟩
      exact ⟨_, rfl, far_below hb2, rfl⟩
    · have hbz : Below w.heap.size w z := hb.below (Nat.le_refl _) (by
        rintro j _ ⟨q, hq, g1, g2, g3⟩
        simp at hq
        subst hq
        exact g1 rfl)
      have HC := hide (unhide (hWN z ((unhide HH).stt.far (far_below (E := fun _ => False) hbz) (fun _ _ h => h))))
      have hzz := hbz.size
      clear hb hbz
      go_simp
      refine (unhide HC).mono ?_
      rintro r z2 ⟨rfl, uv', k1, k2, k3⟩
      exact ⟨_, rfl, footOf_of (.head _) k3, rfl, uv', k1, loc_less k2 hzz⟩
    · clear hb
      obtain ⟨hf, _⟩ := hf
      go_simp
      exact ⟨_, rfl, Far.refl _ _, rfl⟩
  · intro f z hF hwd
    obtain ⟨_, uv', k1, k2⟩ := hwd.2.2.2.2.2.2.1
    have h7 := hwd.2.2.2.2.2.2.2.1
    have hF : Far (StU c.s c.dp c.dlv c.duv) w z := hF.mono (fun k _ h => by
      obtain ⟨q, hq, h⟩ := h
      simp at hq
      subst hq
      exact h)
    have hPK : PkAt z p ep a.logs sh st2 { c with duv := uv' } := ⟨(unhide HH).ks.far hF (fun k hk h => (unhide HH).sep k hk h), k1, (unhide HH).rl.far hF (fun g hg h => ((unhide HH).sepr g hg).2 h), hlen2⟩
    have hST : PkStep w z p ep a.logs sh st2 c := by
      refine ⟨_, hPK, hF.mono (fun k _ h => .inr (.inl h)), ?_, rfl, rfl⟩
      have hwz := hF.size
      rintro k (hk | (rfl | rfl | hk | hk) | hk)
      · exact .inl (.inl hk)
      · exact .inl (.inr (.inl (.inl rfl)))
      · exact .inl (.inr (.inl (.inr (.inl rfl))))
      · exact .inl (.inr (.inl (.inr (.inr (.inl hk)))))
      · rcases k2 with h | h | ⟨g, h, hg⟩
        · rw [h] at hk; cases hk
        · exact .inl (.inr (.inl (.inr (.inr (.inr (by rw [← h]; exact hk))))))
        · rw [h] at hk; cases hk; exact .inr hg
      · exact .inl (.inr (.inr hk))
    have hEP := hST.trans (fun c' h' => pkStep_ep h' e hem)
    have yf : z.frozen? ⟨p, 1, none⟩ = false := blk_free (i := 1) hPK.ks.blk
    have yc : z.cell? ⟨p, 1, none⟩ = some (.int .i64 ep) := by rw [blk_cell hPK.ks.blk]; exact hPK.ks.a1
    have HEP := hide hEP
    clear hwd hF k1 k2 hPK hST hEP
    simp only [mergeT, h7]
    generalize f 13 = x13
    generalize f 14 = x14
    generalize f 15 = x15
    generalize f 16 = x16
    generalize f 17 = x17
    generalize f 18 = x18
    generalize f 19 = x19
    go_upto_region 7 with fail
    refine wp_world (fun y => PkStep w y p e a.logs sh st2 c) (unhide HEP) ?_
    clear HEP yf yc
    intro y hY
    have HY := hide hY
    clear hY
    go_wp2
    go_loopw [6, 27] (fun _ i wr => ∃ j : Nat, j ≤ 3 ∧ i = .int .i64 j ∧ PkStep w wr p e a.logs (fun t => if t < j then [] else sh t) st2 c) (fun _ i _ => 3 - (intOf i).toNat)
    case atStart => exact ⟨0, by omega, rfl, by simpa using unhide HY⟩
    case round =>
      obtain ⟨j, hj, rfl, hk⟩ := hrel
      clear HY
      by_cases hlt : j < 3
      · obtain ⟨c1', K1, F1, N1, e1, e2⟩ := id hk
        have HCL := hide (clearS_any (K1.shAt hlt))
        have hj0 : (0 : Int) ≤ (j : Int) := by omega
        have hj3 : (j : Int) < 3 := by omega
        have HK := hide hk
        have HK1 := hide K1
        have HFN := hide (And.intro F1 (And.intro N1 (And.intro e1 e2)))
        clear hk K1 F1 N1 e1 e2
        go_wp2_with (go_at_call 203; refine (unhide HCL).mono ?_; rintro r y ⟨rfl, hst⟩)
        have hq := pkStep_sh (unhide HK1) hlt hst (by intro x hx; cases hx)
        obtain ⟨F1, N1, e1, e2⟩ := unhide HFN
        have h2 : PkStep w y p e a.logs (fun t => if t < j + 1 then [] else sh t) st2 c := by
          obtain ⟨c2, q1, q2, q3, q4, q5⟩ := hq
          have hsz := F1.size
          have hfun : (fun t => if t = j then ([] : List (Nat × Value)) else (fun t => if t < j then [] else sh t) t) = fun t => if t < j + 1 then [] else sh t := by
            funext t
            by_cases h1 : t = j
            · simp [h1]
            · by_cases h2 : t < j
              · simp [h1, h2, show t < j + 1 by omega]
              · simp [h1, h2, show ¬ t < j + 1 by omega]
          rw [hfun] at q1
          refine ⟨c2, q1, F1.trans q2 (fun k hk hu => (N1 k hu).elim id (fun h => by omega)), fun k hk => ?_, q4.trans e1, q5.trans e2⟩
          rcases q3 k hk with h | h
          · exact N1 k h
          · exact .inr (Nat.le_trans hsz h)
        exact ⟨⟨j + 1, by omega, by go_num, h2⟩, by simp [intOf]; omega⟩
      · obtain rfl : j = 3 := by omega
        go_wp2
        go_ret
        exact ⟨rfl, _, st2, hk, unhide HS2, onSh_cleared⟩
end Go.Proofs.YtamafdcnbcoegaaGreat
namespace Go.Proofs.YtamafdcnbcoegaaGreat
open Go.RowKit

theorem size_frame : (Tryz.prog.info? 41).map (·.size) = some 5 := by kernel_rfl
def zFr : Array Value := #[.int .i64 0, .int .i64 0, .int .i64 0, .int .i64 0, .string ⟨#[]⟩]
/-- A frame's box and a result's block, first behind w; else nothing has changed. -/
structure RsAt (w : World) (cs rs : Array Value) (x : World) : Prop where
  box : x.heap[w.heap.size]? = some (.cells cs 41 (0, 0))
  res : x.heap[w.heap.size + 1]? = some (.cells rs 41 (0, 0))
  bel : Below w.heap.size w x
theorem rsAt_new (w : World) (cs rs : Array Value) : RsAt w cs rs ((w.alloc (.cells cs 41)).alloc (.cells rs 41)) :=
  ⟨(alloc2 _ _ _).1, (alloc2 _ _ _).2.1, (alloc2 _ _ _).2.2⟩
theorem RsAt.lt {w x : World} {cs rs : Array Value} (h : RsAt w cs rs x) : w.heap.size + 1 < x.heap.size := lt_of_block h.res
theorem RsAt.below {w x y : World} {cs rs : Array Value} (h : RsAt w cs rs x) (hb : Below x.heap.size x y) : RsAt w cs rs y :=
  ⟨(hb.block _ (by have := h.lt; omega)).trans h.box, (hb.block _ h.lt).trans h.res, h.bel.trans (hb.mono h.bel.size)⟩
theorem RsAt.drewN {w x : World} {cs rs : Array Value} (h : RsAt w cs rs x) (n : Nat) : RsAt w cs rs (x.drewN n) := h.below (below_drewN (Below.refl _ _) n)

set_option maxRecDepth 100000 in
set_option maxHeartbeats 4000000 in
theorem answerData_other {w : World} {p : Nat} {a : Mod.Sk} {sh : Nat → List (Nat × Value)} {st : Mod.Stv} {c : Sv} (H : PkAt w p a.epoch a.logs sh st c) (e : Nat) (s q : Int) (b : ByteArray) (hne : e ≠ a.epoch) :
    Calls Tryz.prog 110 #[ptrTo p, .agg #[.int .i64 3, .int .i64 e, .int .i64 s, .int .i64 q, .string b]] w fun r z =>
      r = .returned (.tuple #[.agg #[.int .i64 5, .int .i64 (max e a.epoch : Nat), .int .i64 0, .int .i64 0, .string ⟨#[]⟩], .int .i64 0]) ∧ Below w.heap.size w z := by
  have c1 : w.cell? ⟨p, 1, none⟩ = some (.int .i64 a.epoch) := by rw [blk_cell H.ks.blk, H.ks.a1]
  have hpl := lt_of_block H.ks.blk
  obtain ⟨ep, hep⟩ : ∃ ep, ep = a.epoch := ⟨_, rfl⟩
  rw [← hep] at c1 hne ⊢
  have hneb : ((e : Int) != (ep : Int)) = true := by simp; omega
  obtain ⟨m, hm⟩ : ∃ m, m = max e ep := ⟨_, rfl⟩
  have hmI : max (e : Int) (ep : Int) = (m : Int) := by omega
  rw [← hm]
  have hR := fun y => hide (resetOf_any m y)
  have DD := hide (rsAt_new w #[.int .i64 3, .int .i64 e, .int .i64 s, .int .i64 q, .string b] zFr)
  clear H hep hm
  unfold ptrTo
  go_enter Tryz.func110, Tryz.ntmps110
  go_upto_region 1 with fail
  refine wp_world (RsAt w #[.int .i64 3, .int .i64 e, .int .i64 s, .int .i64 q, .string b] zFr) (unhide DD) ?_
  clear DD
  intro x X
  have y1 := blk_cell (i := 1) X.box
  simp at y1
  have z1 := (X.bel.cell (p := ⟨p, 1, none⟩) hpl).trans c1
  have HX := hide X
  clear X
  go_quiet (fail)
  go_upto_region 2 with fail
  refine wp_world (RsAt w #[.int .i64 3, .int .i64 e, .int .i64 s, .int .i64 q, .string b] zFr) ((unhide HX).drewN _) ?_
  clear HX y1 z1
  intro x2 X
  have HX := hide X
  have hgx := X.lt
  clear X
  refine wp_region_foot (by kernel_rfl)
    [fun v _ => v = .pointer (some ⟨w.heap.size, 1, none⟩), fun v _ => v = .int .i64 e, fun v _ => v = .pointer (some ⟨p, 0, none⟩), fun v _ => v = .pointer (some ⟨p, 0, none⟩), fun v _ => v = .pointer (some ⟨p, 1, none⟩), fun v _ => v = .int .i64 ep, fun v _ => v = .int .i64 m,
     fun v _ => v = .agg #[.int .i64 5, .int .i64 m, .int .i64 0, .int .i64 0, .string ⟨#[]⟩], fun _ z => z.heap[w.heap.size + 1]? = some (.cells #[.int .i64 5, .int .i64 m, .int .i64 0, .int .i64 0, .string ⟨#[]⟩] 41 (0, 0)), fun v _ => v = .int .i64 0]
    [[(3, none)], [(15, some 0)], [(0, none)], [(17, some 2)], [(18, some 3)], [(19, some 4)], [(16, some 1), (20, some 5)], [(21, some 6)], [(4, none), (22, some 7)], []] [some 15, some 16, some 17, some 18, some 19, some 20, some 21, some 22, none, some 5] [false, false, false, false, false, true, false, false, false, false, false, false, false, false, false, true, true, true, true, true, true, true, true, false, false, false, false, false, false, false, false, false, false, false, false, false, false, false, false, false, false, false, false, false, false, false, false, false, false, false, false, false]
    [(8, fun k => k = w.heap.size + 1)]
    (by kernel_rfl) (by kernel_rfl) (by kernel_rfl) (by kernel_rfl) (by kernel_rfl) ?_ ?_ ?_ ?_
  · repeat' (first | exact stable_eq _ | exact stable_blk _ _ | exact trivial | apply And.intro)
  · repeat' (first | exact trivial | exact .inl rfl | exact .inr (.inr (stableF_eq _ _)) | apply And.intro)
  · refine ⟨?_, ?_, ?_, ?_, ?_, ?_, ?_, ?_, ?_, ?_, trivial⟩
    all_goals
      intro a' z hb hf
      have zb := hb.blk (unhide HX).box (footBut_no (by intro q hq; simp at hq; subst hq; intro (h : w.heap.size = w.heap.size + 1); omega))
      have y1 : z.cell? ⟨w.heap.size, 1, none⟩ = some (.int .i64 e) := blk_cell (i := 1) zb
      have z1 : z.cell? ⟨p, 1, none⟩ = some (.int .i64 ep) := by
        have hr := hb.rest p (by omega) (footBut_no (by intro q hq; simp at hq; subst hq; intro (h : p = w.heap.size + 1); omega))
        have := ((unhide HX).bel.cell (p := ⟨p, 1, none⟩) hpl).trans c1
        unfold World.cell? at this ⊢
        simp only at this ⊢
        rw [hr]
        exact this
      clear zb
      simp only [PlanFacts, List.getD_cons_zero, List.getD_cons_succ, Array.getD_eq_getD_getElem?] at hf
      try simp at hf
    iterate 7
      · clear hb
        go_simp
        exact ⟨_, rfl, Far.refl _ _, rfl⟩
    · clear hb
      go_simp
      refine (unhide (hR z)).mono ?_
      rintro r z2 ⟨rfl, hb2⟩
      exact ⟨_, rfl, far_below hb2, rfl⟩
    · have q0 := hb.blk (unhide HX).res (by
        rintro ⟨q, hq, g1, g2, g3⟩
        simp at hq
        subst hq
        exact g1 rfl)
      clear hb
      rw [if_pos (by rfl)]
      refine wp_store_row 41 (.tmp 4) (.tmp 22) rfl (w.heap.size + 1) #[.int .i64 5, .int .i64 m, .int .i64 0, .int .i64 0, .string ⟨#[]⟩] (by simp [Act.eval, hf]) (by simp [Act.eval, hf]) 41 _ q0 (by rw [size_frame]; rfl) rfl (by rw [Array.all_eq_true_iff_forall_mem]; intro u hu; simp at hu; rcases hu with rfl | rfl | rfl | rfl <;> rfl) ?_
      exact ⟨_, rfl, footOf_of (.head _) (far_setRow _ _ _), setRow_heap _ _ _ _ _ _ q0⟩
    · clear hb
      go_simp
      exact ⟨_, rfl, Far.refl _ _, rfl⟩
  · intro f z hF hwd
    have h8 := hwd.2.2.2.2.2.2.2.2.1
    have h9 := hwd.2.2.2.2.2.2.2.2.2.1
    have q0 : z.cell? ⟨w.heap.size + 1, 0, none⟩ = some (.int .i64 5) := blk_cell (i := 0) h8
    have q1 : z.cell? ⟨w.heap.size + 1, 1, none⟩ = some (.int .i64 m) := blk_cell (i := 1) h8
    have q2 : z.cell? ⟨w.heap.size + 1, 2, none⟩ = some (.int .i64 0) := blk_cell (i := 2) h8
    have q3 : z.cell? ⟨w.heap.size + 1, 3, none⟩ = some (.int .i64 0) := blk_cell (i := 3) h8
    have q4 : z.cell? ⟨w.heap.size + 1, 4, none⟩ = some (.string ⟨#[]⟩) := blk_cell (i := 4) h8
    have hbz : Below w.heap.size w z := (unhide HX).bel.trans (hF.below (B := w.heap.size) (by omega) (fun k hk h => by
      obtain ⟨q, hq, h⟩ := h
      simp at hq
      subst hq
      have h : k = w.heap.size + 1 := h
      omega))
    have HBZ := hide hbz
    clear hwd hF h8 hbz
    simp only [mergeT, h9]
    generalize f 15 = x15
    generalize f 16 = x16
    generalize f 17 = x17
    generalize f 18 = x18
    generalize f 19 = x19
    generalize f 20 = x20
    generalize f 21 = x21
    generalize f 22 = x22
    go_simp
    go_wp2
    exact bodyPost_ret (v := .tuple #[.agg #[.int .i64 5, .int .i64 m, .int .i64 0, .int .i64 0, .string ⟨#[]⟩], .int .i64 0]) (by simp [results, Tryz.results110, go_sem, q0, q1, q2, q3, q4]) rfl ⟨rfl, unhide HBZ⟩

set_option maxRecDepth 100000 in
set_option maxHeartbeats 4000000 in
theorem answerData_same {w : World} {p : Nat} {a : Mod.Sk} {sh : Nat → List (Nat × Value)} {st : Mod.Stv} {c : Sv} (H : PkAt w p a.epoch a.logs sh st c) (hs : Sound st) (G : SkGood a) (M : SkMore a) (O : OnSh a.held sh) (i q : Nat) (hi : i < 3) (hq : q ≤ 2147483647) (b : ByteArray) (hb : b.size ≤ 20) :
    Calls Tryz.prog 110 #[ptrTo p, .agg #[.int .i64 3, .int .i64 a.epoch, .int .i64 i, .int .i64 q, .string b]] w fun r z =>
      r = .returned (.tuple #[.agg #[.int .i64 4, .int .i64 a.epoch, .int .i64 i, .int .i64 ((skAfter a 3 a.epoch i q b).logs i).length, .string (ackBody (skAfter a 3 a.epoch i q b) i ((skAfter a 3 a.epoch i q b).logs i).length)], .int .i64 0]) ∧ SkIs w z p (skAfter a 3 a.epoch i q b) c := by
  have c1 : w.cell? ⟨p, 1, none⟩ = some (.int .i64 a.epoch) := by rw [blk_cell H.ks.blk, H.ks.a1]
  have hpl := lt_of_block H.ks.blk
  have hTK := fun y (hy : Below w.heap.size w y) => hide (take_any (H.far (far_below (E := fun _ => False) hy) (fun _ _ h => h)) hs G M O a.epoch i q hi hq b hb)
  have hep2 : (skAfter a 3 a.epoch i q b).epoch = a.epoch := by
    unfold skAfter
    split
    · exact holdIt_epoch _ _ _ _
    · rfl
  obtain ⟨a2, ha2⟩ : ∃ a2, a2 = skAfter a 3 a.epoch i q b := ⟨_, rfl⟩
  rw [← ha2] at hTK hep2 ⊢
  obtain ⟨ep, hep⟩ : ∃ ep, ep = a.epoch := ⟨_, rfl⟩
  rw [← hep] at c1 hTK hep2 ⊢
  have hneb : ((ep : Int) != (ep : Int)) = false := by simp
  have hUl := hide H.lt
  have DD := hide (rsAt_new w #[.int .i64 3, .int .i64 ep, .int .i64 i, .int .i64 q, .string b] zFr)
  have hi0 : (0 : Int) ≤ (i : Int) := by omega
  have hi3 : (i : Int) < 3 := by omega
  have HEP := hide hep2
  obtain ⟨n, hn⟩ : ∃ n, n = (a2.logs i).length := ⟨_, rfl⟩
  rw [← hn]
  obtain ⟨bd, hbd⟩ : ∃ bd, bd = ackBody a2 i n := ⟨_, rfl⟩
  rw [← hbd]
  have HNB := hide (And.intro hn hbd)
  clear H hep ha2 hep2 hn hbd
  unfold ptrTo at *
  go_enter Tryz.func110, Tryz.ntmps110
  go_upto_region 1 with fail
  refine wp_world (RsAt w #[.int .i64 3, .int .i64 ep, .int .i64 i, .int .i64 q, .string b] zFr) (unhide DD) ?_
  clear DD
  intro x X
  have y1 := blk_cell (i := 1) X.box
  simp at y1
  have z1 := (X.bel.cell (p := ⟨p, 1, none⟩) hpl).trans c1
  have HX := hide X
  clear X
  go_quiet (fail)
  go_upto_region 3 with fail
  refine wp_world (RsAt w #[.int .i64 3, .int .i64 ep, .int .i64 i, .int .i64 q, .string b] zFr) ((unhide HX).drewN _) ?_
  clear HX y1 z1
  intro x2 X
  have y0 := blk_cell (i := 0) X.box
  have y1 := blk_cell (i := 1) X.box
  have y2 := blk_cell (i := 2) X.box
  have y3 := blk_cell (i := 3) X.box
  have y4 := blk_cell (i := 4) X.box
  simp at y0 y1 y2 y3 y4
  have hT := hide (unhide (hTK x2 X.bel))
  have HX := hide X
  clear X hTK
  go_upto_region 6 with (go_at_call 163; refine (unhide hT).mono ?_; rintro r y ⟨rfl, hk⟩)
  obtain ⟨sh2, st2, ⟨c2, K2, F2, N2, t1, t2⟩, hs2, O2⟩ := hk
  have hnE : ∀ k, w.heap.size ≤ k → ¬ PkU p c k := fun k hk h => by have := (unhide hUl) k h; omega
  have hgx := (unhide HX).lt
  refine wp_world (fun z => PkAt z p a2.epoch a2.logs sh2 st2 c2 ∧ Far (PkU p c) x2 z ∧ z.heap[w.heap.size]? = some (.cells #[.int .i64 3, .int .i64 ep, .int .i64 i, .int .i64 q, .string b] 41 (0, 0)) ∧ z.heap[w.heap.size + 1]? = some (.cells zFr 41 (0, 0))) ⟨K2, F2, F2.blk (unhide HX).box (hnE _ (Nat.le_refl _)), F2.blk (unhide HX).res (hnE _ (by omega))⟩ ?_
  clear y0 y1 y2 y3 y4 K2 F2 hT
  rintro x3 ⟨K3, F3, hbx, hrx⟩
  have y2 : x3.cell? ⟨w.heap.size, 2, none⟩ = some (.int .i64 i) := blk_cell (i := 2) hbx
  have HK3 := hide K3
  have HF3 := hide F3
  have HBX := hide (And.intro hbx hrx)
  have HN2 := hide (And.intro N2 (And.intro t1 (And.intro t2 (And.intro hs2 O2))))
  clear K3 F3 hbx hrx N2 t1 t2 hs2 O2
  go_quiet (fail)
  go_upto_region 7 with fail
  refine wp_world (fun z => PkAt z p a2.epoch a2.logs sh2 st2 c2 ∧ Far (PkU p c) x2 z ∧ z.heap[w.heap.size]? = some (.cells #[.int .i64 3, .int .i64 ep, .int .i64 i, .int .i64 q, .string b] 41 (0, 0)) ∧ z.heap[w.heap.size + 1]? = some (.cells zFr 41 (0, 0))) ⟨(unhide HK3).far (far_drewN (fun _ => False) _ _) (fun _ _ h => h), (unhide HF3).trans (far_drewN (fun _ => False) _ _) (fun _ _ h => h.elim), (unhide HBX).1, (unhide HBX).2⟩ ?_
  clear y2 HK3 HF3 HBX
  rintro x4 ⟨K4, F4, hbx, hrx⟩
  obtain ⟨ad, cap, _, clog⟩ := K4.ks.logc hi
  have hll := K4.ks.loglen hi
  obtain ⟨hn, hbd⟩ := unhide HNB
  rw [← hn] at clog hll
  have hO2 := (unhide HN2).2.2.2.2
  have hAB := fun z (hz : Below x4.heap.size x4 z) => hide (ackBody_any ((K4.far (far_below (E := fun _ => False) hz) (fun _ _ h => h)).shAt hi) (K4.ks.are i hi) n (by omega))
  rw [ack_body_same hO2 K4.ks.are hi n, ← hbd] at hAB
  have hLS := fun z (hz : Below x4.heap.size x4 z) => hide (sinkLast_any z p (2 + i * 3) n cap ad ((hz.cell (p := ⟨p, 2 + i * 3, none⟩) (lt_of_block K4.ks.blk)).trans clog))
  have hpx := lt_of_block K4.ks.blk
  have c14 : x4.cell? ⟨p, 1, none⟩ = some (.int .i64 ep) := by rw [blk_cell K4.ks.blk, K4.ks.a1, unhide HEP]
  have y2 : x4.cell? ⟨w.heap.size, 2, none⟩ = some (.int .i64 i) := blk_cell (i := 2) hbx
  have hgb := lt_of_block hbx
  have HK4 := hide K4
  have HF4 := hide F4
  have HBX := hide hrx
  clear K4 F4 hbx hrx hn hbd hO2
  have hnp : p ≠ w.heap.size + 1 := by omega
  refine wp_region_foot (by kernel_rfl)
    [fun v _ => v = .pointer (some ⟨p, 0, none⟩), fun v _ => v = .pointer (some ⟨p, 0, none⟩), fun v _ => v = .pointer (some ⟨p, 1, none⟩), fun v _ => v = .int .i64 ep, fun v _ => v = .pointer (some ⟨w.heap.size, 2, none⟩), fun v _ => v = .int .i64 i,
     fun v _ => v = .pointer (some ⟨p, 2 + i * 3, none⟩), fun v _ => v = .int .i64 n, fun v _ => v = .pointer (some ⟨p, 2 + i * 3, none⟩), fun v _ => v = .int .i64 n, fun v _ => v = .pointer (some ⟨p, 2 + i * 3, none⟩), fun v _ => v = .pointer (some ⟨p, 2 + i * 3, none⟩), fun v _ => v = .pointer (some ⟨p, 2 + i * 3 + 1, none⟩),
     fun v _ => v = .func (.func 165) #[.pointer (some ⟨p, 2 + i * 3 + 1, none⟩)] #[], fun v _ => v = .string bd, fun v _ => v = .agg #[.int .i64 4, .int .i64 ep, .int .i64 i, .int .i64 n, .string bd],
     fun _ z => z.heap[w.heap.size + 1]? = some (.cells #[.int .i64 4, .int .i64 ep, .int .i64 i, .int .i64 n, .string bd] 41 (0, 0)), fun v _ => v = .int .i64 0]
    [[(0, none)], [(36, some 0)], [(37, some 1)], [(38, some 2)], [(3, none)], [(40, some 4)], [(7, none)], [(42, some 6)], [(7, none)], [(44, some 8)], [(7, none)], [(46, some 10)], [(47, some 11)], [(48, some 12)], [(45, some 9), (49, some 13)], [(39, some 3), (41, some 5), (43, some 7), (50, some 14)], [(4, none), (51, some 15)], []] [some 36, some 37, some 38, some 39, some 40, some 41, some 42, some 43, some 44, some 45, some 46, some 47, some 48, some 49, some 50, some 51, none, some 5] [false, false, false, false, false, true, false, false, false, false, false, false, false, false, false, false, false, false, false, false, false, false, false, false, false, false, false, false, false, false, false, false, false, false, false, false, true, true, true, true, true, true, true, true, true, true, true, true, true, true, true, true]
    [(16, fun k => k = w.heap.size + 1)]
    (by kernel_rfl) (by kernel_rfl) (by kernel_rfl) (by kernel_rfl) (by kernel_rfl) ?_ ?_ ?_ ?_
  · repeat' (first | exact stable_eq _ | exact stable_blk _ _ | exact trivial | apply And.intro)
  · repeat' (first | exact trivial | exact .inl rfl | exact .inr (.inr (stableF_eq _ _)) | apply And.intro)
  · refine ⟨?_, ?_, ?_, ?_, ?_, ?_, ?_, ?_, ?_, ?_, ?_, ?_, ?_, ?_, ?_, ?_, ?_, ?_, trivial⟩
    case refine_17 =>
      intro a' z hb hf
      simp only [PlanFacts, List.getD_cons_zero, List.getD_cons_succ, Array.getD_eq_getD_getElem?] at hf
      try simp at hf
      have q0 := hb.blk (unhide HBX) (by
        rintro ⟨q, hq, g1, g2, g3⟩
        simp at hq
        subst hq
        exact g1 rfl)
      clear hb
      rw [if_pos (by rfl)]
      refine wp_store_row 41 (.tmp 4) (.tmp 51) rfl (w.heap.size + 1) #[.int .i64 4, .int .i64 ep, .int .i64 i, .int .i64 n, .string bd] (by simp [Act.eval, hf]) (by simp [Act.eval, hf]) 41 _ q0 (by rw [size_frame]; rfl) rfl (by rw [Array.all_eq_true_iff_forall_mem]; intro u hu; simp at hu; rcases hu with rfl | rfl | rfl | rfl | rfl <;> rfl) ?_
      exact ⟨_, rfl, footOf_of (.head _) (far_setRow _ _ _), setRow_heap _ _ _ _ _ _ q0⟩
    case refine_18 =>
      intro a' z hb hf
      clear hb
      go_simp
      exact ⟨_, rfl, Far.refl _ _, rfl⟩
    all_goals
      intro a' z hb hf
      have hbz : Below x4.heap.size x4 z := foot_below hb (by intro q hq; simp at hq; subst hq; show depB _ 16 _ = true; decide +kernel)
      have z2 := (hbz.cell (p := ⟨w.heap.size, 2, none⟩) hgb).trans y2
      have z1 := (hbz.cell (p := ⟨p, 1, none⟩) hpx).trans c14
      have HA := hide (unhide (hAB z hbz))
      have HL := hide (unhide (hLS z hbz))
      clear hb hbz hAB hLS
      simp only [PlanFacts, List.getD_cons_zero, List.getD_cons_succ, Array.getD_eq_getD_getElem?] at hf
      try simp at hf
      go_simp
      first
        | exact ⟨_, rfl, Far.refl _ _, rfl⟩
        | (refine (unhide HL).mono ?_; rintro r z2 ⟨rfl, rfl⟩; exact ⟨_, rfl, Far.refl _ _, rfl⟩)
        | (refine (unhide HA).mono ?_; rintro r z2 ⟨rfl, hb2⟩; exact ⟨_, rfl, far_below hb2, rfl⟩)
        | skip
  · intro f z hF hwd
    have h8 := hwd.2.2.2.2.2.2.2.2.2.2.2.2.2.2.2.2.1
    have h9 := hwd.2.2.2.2.2.2.2.2.2.2.2.2.2.2.2.2.2.1
    have q0 : z.cell? ⟨w.heap.size + 1, 0, none⟩ = some (.int .i64 4) := blk_cell (i := 0) h8
    have q1 : z.cell? ⟨w.heap.size + 1, 1, none⟩ = some (.int .i64 ep) := blk_cell (i := 1) h8
    have q2 : z.cell? ⟨w.heap.size + 1, 2, none⟩ = some (.int .i64 i) := blk_cell (i := 2) h8
    have q3 : z.cell? ⟨w.heap.size + 1, 3, none⟩ = some (.int .i64 n) := blk_cell (i := 3) h8
    have q4 : z.cell? ⟨w.heap.size + 1, 4, none⟩ = some (.string bd) := blk_cell (i := 4) h8
    have hF : Far (fun k => k = w.heap.size + 1) x4 z := hF.mono (fun k _ h => by
      obtain ⟨q, hq, h⟩ := h
      simp at hq
      subst hq
      exact h)
    have HFZ := hide hF
    clear hwd hF h8
    simp only [mergeT, h9]
    generalize f 36 = x36
    generalize f 37 = x37
    generalize f 38 = x38
    generalize f 39 = x39
    generalize f 40 = x40
    generalize f 41 = x41
    generalize f 42 = x42
    generalize f 43 = x43
    generalize f 44 = x44
    generalize f 45 = x45
    generalize f 46 = x46
    generalize f 47 = x47
    generalize f 48 = x48
    generalize f 49 = x49
    generalize f 50 = x50
    generalize f 51 = x51
    go_simp
    go_wp2
    refine bodyPost_ret (v := .tuple #[.agg #[.int .i64 4, .int .i64 ep, .int .i64 i, .int .i64 n, .string bd], .int .i64 0]) (by simp [results, Tryz.results110, go_sem, q0, q1, q2, q3, q4]) rfl ⟨rfl, ?_⟩
    obtain ⟨N2, t1, t2, hs2, O2⟩ := unhide HN2
    have hxb := (unhide HX).bel
    have hFz := unhide HFZ
    have hres : ¬ PkU p c2 (w.heap.size + 1) := by
      have hc := unhide HBX
      exact pk_not_cells (unhide HK4) hc (by decide) (by decide) (by decide) (by decide) (by decide) (by decide) (by decide) (by decide)
    refine ⟨sh2, st2, ⟨c2, (unhide HK4).far hFz (fun k hk e => hres (by rw [← e]; exact hk)), ?_, fun k hk => (N2 k hk).imp id (fun h => Nat.le_trans hxb.size h), t1, t2⟩, hs2, O2⟩
    exact ((far_below (E := PkU p c) hxb).trans (unhide HF4) (fun _ _ h => h)).trans hFz (fun k hk e => by omega)
end Go.Proofs.YtamafdcnbcoegaaGreat
namespace Go.Proofs.YtamafdcnbcoegaaGreat
open Go.RowKit

theorem wel_bytes (a b c : Int) : (⟨(Wire.le4 a ++ Wire.le4 b ++ Wire.le4 c).toArray⟩ : ByteArray) = le4S a ++ le4S b ++ le4S c := by
  rw [← wel_data]
set_option maxRecDepth 100000 in
set_option maxHeartbeats 4000000 in
theorem answerHello_old {w : World} {p : Nat} {a : Mod.Sk} {sh : Nat → List (Nat × Value)} {st : Mod.Stv} {c : Sv} (H : PkAt w p a.epoch a.logs sh st c) (e : Nat) (s q : Int) (b : ByteArray) (hlt : e < a.epoch) :
    Calls Tryz.prog 109 #[ptrTo p, .agg #[.int .i64 1, .int .i64 e, .int .i64 s, .int .i64 q, .string b]] w fun r z =>
      r = .returned (.tuple #[.agg #[.int .i64 5, .int .i64 a.epoch, .int .i64 0, .int .i64 0, .string ⟨#[]⟩], .int .i64 0]) ∧ Below w.heap.size w z := by
  have c1 : w.cell? ⟨p, 1, none⟩ = some (.int .i64 a.epoch) := by rw [blk_cell H.ks.blk, H.ks.a1]
  have hpl := lt_of_block H.ks.blk
  obtain ⟨ep, hep⟩ : ∃ ep, ep = a.epoch := ⟨_, rfl⟩
  rw [← hep] at c1 hlt ⊢
  have hltI : (e : Int) < (ep : Int) := by omega
  have hR := fun y => hide (resetOf_any ep y)
  have DD := hide (rsAt_new w #[.int .i64 1, .int .i64 e, .int .i64 s, .int .i64 q, .string b] zFr)
  clear H hep hlt
  unfold ptrTo
  go_enter Tryz.func109, Tryz.ntmps109
  go_upto_region 1 with fail
  refine wp_world (RsAt w #[.int .i64 1, .int .i64 e, .int .i64 s, .int .i64 q, .string b] zFr) (unhide DD) ?_
  clear DD
  intro x X
  have y1 := blk_cell (i := 1) X.box
  simp at y1
  have z1 := (X.bel.cell (p := ⟨p, 1, none⟩) hpl).trans c1
  have HX := hide X
  clear X
  go_quiet (fail)
  go_upto_region 2 with fail
  refine wp_world (RsAt w #[.int .i64 1, .int .i64 e, .int .i64 s, .int .i64 q, .string b] zFr) ((unhide HX).drewN _) ?_
  clear HX y1 z1
  intro x2 X
  have z1 := (X.bel.cell (p := ⟨p, 1, none⟩) hpl).trans c1
  have HX := hide X
  have hpx : p < x2.heap.size := Nat.lt_of_lt_of_le hpl X.bel.size
  clear X
  go_wp2_with (go_at_call 159; refine (unhide (hR _)).mono ?_; rintro r y ⟨rfl, hb⟩; have X := (unhide HX).below hb; have q0 := blk_cell (i := 0) X.res; have q1 := blk_cell (i := 1) X.res; have q2 := blk_cell (i := 2) X.res; have q3 := blk_cell (i := 3) X.res; have q4 := blk_cell (i := 4) X.res; have f0 := blk_free (i := 0) X.res; have f1 := blk_free (i := 1) X.res; have f2 := blk_free (i := 2) X.res; have f3 := blk_free (i := 3) X.res; have f4 := blk_free (i := 4) X.res; simp [zFr] at q0 q1 q2 q3 q4; have HXX := hide X; clear X hb)
  refine bodyPost_ret (v := .tuple #[.agg #[.int .i64 5, .int .i64 ep, .int .i64 0, .int .i64 0, .string ⟨#[]⟩], .int .i64 0]) (by simp [results, Tryz.results109, go_sem, *]) rfl ⟨rfl, ?_⟩
  have hb := (unhide HXX).bel
  refine ((((hb.setCell (p := ⟨w.heap.size + 1, 0, none⟩) (by simp) _).setCell (p := ⟨w.heap.size + 1, 1, none⟩) (by simp) _).setCell (p := ⟨w.heap.size + 1, 2, none⟩) (by simp) _).setCell (p := ⟨w.heap.size + 1, 3, none⟩) (by simp) _).setCell (p := ⟨w.heap.size + 1, 4, none⟩) (by simp) _

set_option maxRecDepth 100000 in
set_option maxHeartbeats 4000000 in
theorem answerHello_new {w : World} {p : Nat} {a : Mod.Sk} {sh : Nat → List (Nat × Value)} {st : Mod.Stv} {c : Sv} (H : PkAt w p a.epoch a.logs sh st c) (hs : Sound st) (O : OnSh a.held sh) (e : Nat) (s q : Int) (b : ByteArray) (he : a.epoch ≤ e) (hem : e ≤ 2147483647) :
    Calls Tryz.prog 109 #[ptrTo p, .agg #[.int .i64 1, .int .i64 e, .int .i64 s, .int .i64 q, .string b]] w fun r z =>
      r = .returned (.tuple #[.agg #[.int .i64 2, .int .i64 e, .int .i64 0, .int .i64 0, .string (welB a)], .int .i64 0]) ∧ SkIs w z p (helloIt a e) c := by
  have c1 : w.cell? ⟨p, 1, none⟩ = some (.int .i64 a.epoch) := by rw [blk_cell H.ks.blk, H.ks.a1]
  have hpl := lt_of_block H.ks.blk
  have hBG := fun y (hy : Below w.heap.size w y) => hide (begin_any (H.far (far_below (E := fun _ => False) hy) (fun _ _ h => h)) hs O e he hem)
  have hlg : (helloIt a e).logs = a.logs := rfl
  have hepE : (helloIt a e).epoch = e := rfl
  obtain ⟨a2, ha2⟩ : ∃ a2, a2 = helloIt a e := ⟨_, rfl⟩
  rw [← ha2] at hBG hlg hepE ⊢
  have hwb := wel_bytes (a.logs 0).length (a.logs 1).length (a.logs 2).length
  have hl0 := H.ks.loglen (i := 0) (by omega)
  have hl1 := H.ks.loglen (i := 1) (by omega)
  have hl2 := H.ks.loglen (i := 2) (by omega)
  obtain ⟨n0, hn0⟩ : ∃ n, n = (a.logs 0).length := ⟨_, rfl⟩
  obtain ⟨n1, hn1⟩ : ∃ n, n = (a.logs 1).length := ⟨_, rfl⟩
  obtain ⟨n2, hn2⟩ : ∃ n, n = (a.logs 2).length := ⟨_, rfl⟩
  obtain ⟨wel, hwel⟩ : ∃ v, v = welB a := ⟨_, rfl⟩
  have hwv : wel = le4S (a.logs 0).length ++ le4S (a.logs 1).length ++ le4S (a.logs 2).length := hwel
  rw [← hwel]
  rw [← hn0, ← hn1, ← hn2] at hwv hwb
  rw [← hwv] at hwb
  rw [← hn0] at hl0
  rw [← hn1] at hl1
  rw [← hn2] at hl2
  have hWB := fun y => hide (welcomeBody_any n0 n1 n2 (by omega) (by omega) (by omega) y)
  rw [hwb] at hWB
  have HNN := hide (And.intro hn0 (And.intro hn1 (And.intro hn2 (And.intro hlg hepE))))
  obtain ⟨ep, hep⟩ : ∃ ep, ep = a.epoch := ⟨_, rfl⟩
  rw [← hep] at c1 he
  have hltI : ¬ (e : Int) < (ep : Int) := by omega
  have hUl := hide H.lt
  have DD := hide (rsAt_new w #[.int .i64 1, .int .i64 e, .int .i64 s, .int .i64 q, .string b] zFr)
  clear H hep ha2 hlg hepE hn0 hn1 hn2 hwel hwv hwb
  unfold ptrTo at *
  go_enter Tryz.func109, Tryz.ntmps109
  go_upto_region 1 with fail
  refine wp_world (RsAt w #[.int .i64 1, .int .i64 e, .int .i64 s, .int .i64 q, .string b] zFr) (unhide DD) ?_
  clear DD
  intro x X
  have y1 := blk_cell (i := 1) X.box
  simp at y1
  have z1 := (X.bel.cell (p := ⟨p, 1, none⟩) hpl).trans c1
  have HX := hide X
  clear X
  go_quiet (fail)
  go_upto_region 3 with fail
  refine wp_world (RsAt w #[.int .i64 1, .int .i64 e, .int .i64 s, .int .i64 q, .string b] zFr) ((unhide HX).drewN _) ?_
  clear HX y1 z1
  intro x2 X
  have y1 := blk_cell (i := 1) X.box
  simp at y1
  have hT := hide (unhide (hBG x2 X.bel))
  have HX := hide X
  clear X hBG
  go_upto_region 6 with (go_at_call 160; refine (unhide hT).mono ?_; rintro r y ⟨rfl, hk⟩)
  obtain ⟨sh2, st2, ⟨c2, K2, F2, N2, t1, t2⟩, hs2, O2⟩ := hk
  have hnE : ∀ k, w.heap.size ≤ k → ¬ PkU p c k := fun k hk h => by have := (unhide hUl) k h; omega
  have hgx := (unhide HX).lt
  have hys := F2.size
  obtain ⟨g7, hg7⟩ : ∃ g7, g7 = y.heap.size := ⟨_, rfl⟩
  have HR2 := hide (F2.blk (unhide HX).res (hnE _ (by omega)))
  have HK2 := hide K2
  have HF2 := hide F2
  have HN2 := hide (And.intro N2 (And.intro t1 (And.intro t2 (And.intro hs2 O2))))
  clear hT K2 F2 N2 t1 t2 hs2 O2 y1
  go_upto_region 7 with fail
  rw [← hg7]
  refine wp_world (fun z => PkAt z p a2.epoch a2.logs sh2 st2 c2 ∧ Far (PkU p c) x2 z ∧ z.heap[w.heap.size + 1]? = some (.cells zFr 41 (0, 0)) ∧ z.heap[g7]? = some (.cells #[.int .i64 0, .int .i64 0, .int .i64 0] 98 (0, 0))) ?_ ?_
  · have hb : ∀ o, Below y.heap.size y (y.alloc o) := fun o => (Below.refl _ _).alloc (Nat.le_refl _) o
    refine ⟨(unhide HK2).far (far_below (E := fun _ => False) (hb _)) (fun _ _ h => h), (unhide HF2).trans (far_below (E := fun _ => False) (hb _)) (fun _ _ h => h.elim), ((hb _).block _ (by omega)).trans (unhide HR2), by rw [hg7]; exact heap_alloc_new _ _⟩
  have hg7w : w.heap.size + 1 < g7 := by omega
  have hx2g : x2.heap.size ≤ g7 := by omega
  clear HR2 HK2 HF2 hg7 hys
  rintro x3 ⟨K3, F3, hrx, hgx3⟩
  have HQ := hide (And.intro K3 (And.intro F3 (And.intro hrx hgx3)))
  clear K3 F3 hrx hgx3
  go_wp2
  go_loopw [8, 29] (fun _ i wr => ∃ j : Nat, j ≤ 3 ∧ i = .int .i64 j ∧ PkAt wr p a2.epoch a2.logs sh2 st2 c2 ∧ Far (PkU p c) x2 wr ∧ wr.heap[w.heap.size + 1]? = some (.cells zFr 41 (0, 0)) ∧ wr.heap[g7]? = some (.cells #[.int .i64 (if 0 < j then n0 else 0 : Nat), .int .i64 (if 1 < j then n1 else 0 : Nat), .int .i64 (if 2 < j then n2 else 0 : Nat)] 98 (0, 0))) (fun _ i _ => 3 - (intOf i).toNat)
  case atStart =>
    obtain ⟨K3, F3, hrx, hgx3⟩ := unhide HQ
    exact ⟨0, by omega, rfl, K3, F3, hrx, by simpa using hgx3⟩
  case round =>
    obtain ⟨j, hj, rfl, K, F, hr, hg⟩ := hrel
    clear HQ
    have hngp : ¬ PkU p c2 g7 := pk_not_cells K hg (by decide) (by decide) (by decide) (by decide) (by decide) (by decide) (by decide) (by decide)
    obtain ⟨ea, eb, ec, ed, ee⟩ := unhide HNN
    obtain ⟨ad0, cap0, _, c0⟩ := K.ks.logc (i := 0) (by omega)
    obtain ⟨ad1, cap1, _, c1'⟩ := K.ks.logc (i := 1) (by omega)
    obtain ⟨ad2, cap2, _, c2'⟩ := K.ks.logc (i := 2) (by omega)
    rw [ed, ← ea] at c0
    rw [ed, ← eb] at c1'
    rw [ed, ← ec] at c2'
    have hL0 := hide (sinkLast_any wr p 2 n0 cap0 ad0 c0)
    have hL1 := hide (sinkLast_any wr p 5 n1 cap1 ad1 c1')
    have hL2 := hide (sinkLast_any wr p 8 n2 cap2 ad2 c2')
    have hnext : ∀ (k : Nat) (v : Value), PkAt (wr.setCell ⟨g7, k, none⟩ v) p a2.epoch a2.logs sh2 st2 c2 ∧ Far (PkU p c) x2 (wr.setCell ⟨g7, k, none⟩ v) ∧ (wr.setCell ⟨g7, k, none⟩ v).heap[w.heap.size + 1]? = some (.cells zFr 41 (0, 0)) := fun k v => by
      have hf := far_set wr g7 k v
      exact ⟨K.far hf (fun k hk e => hngp (by rw [← e]; exact hk)), F.trans hf (fun k hk e => by omega), hf.blk hr (by omega)⟩
    have HNX := hide hnext
    have hset := fun k v => blk_set (j := k) (v := v) hg
    have g0 := blk_cell (i := 0) hg
    have g1 := blk_cell (i := 1) hg
    have g2 := blk_cell (i := 2) hg
    have f0 := blk_free (i := 0) hg
    have f1 := blk_free (i := 1) hg
    have f2 := blk_free (i := 2) hg
    have HST := hide hset
    have HKK := hide K
    have HFF := hide F
    have HRR := hide hr
    have HGG := hide hg
    rcases (show j = 0 ∨ j = 1 ∨ j = 2 ∨ j = 3 by omega) with rfl | rfl | rfl | rfl
    · simp at g0
      clear K F hr hg hnext hset c0 c1' c2' ea eb ec ed ee g1 g2
      go_wp2_with (go_at_call 161; refine (unhide hL0).mono ?_; rintro r y ⟨rfl, rfl⟩)
      refine ⟨⟨1, by omega, by go_num, ?_⟩, by simp [intOf]⟩
      obtain ⟨h1, h2, h3⟩ := (unhide HNX) 0 (.int .i64 n0)
      exact ⟨h1, h2, h3, by simpa using (unhide HST) 0 (.int .i64 n0)⟩
    · simp at g1
      clear K F hr hg hnext hset c0 c1' c2' ea eb ec ed ee g0 g2
      go_wp2_with (go_at_call 161; refine (unhide hL1).mono ?_; rintro r y ⟨rfl, rfl⟩)
      refine ⟨⟨2, by omega, by go_num, ?_⟩, by simp [intOf]⟩
      obtain ⟨h1, h2, h3⟩ := (unhide HNX) 1 (.int .i64 n1)
      exact ⟨h1, h2, h3, by simpa using (unhide HST) 1 (.int .i64 n1)⟩
    · simp at g2
      clear K F hr hg hnext hset c0 c1' c2' ea eb ec ed ee g0 g1
      go_wp2_with (go_at_call 161; refine (unhide hL2).mono ?_; rintro r y ⟨rfl, rfl⟩)
      refine ⟨⟨3, by omega, by go_num, ?_⟩, by simp [intOf]⟩
      obtain ⟨h1, h2, h3⟩ := (unhide HNX) 2 (.int .i64 n2)
      exact ⟨h1, h2, h3, by simpa using (unhide HST) 2 (.int .i64 n2)⟩
    · simp at g0 g1 g2
      have c14 : wr.cell? ⟨p, 1, none⟩ = some (.int .i64 e) := by rw [blk_cell K.ks.blk, K.ks.a1, ee]
      have hpx := lt_of_block K.ks.blk
      have hgl := lt_of_block hg
      clear K F hr hg hnext hset c0 c1' c2' ea eb ec ed ee hL0 hL1 hL2
      go_upto_region 12 with fail
      refine wp_region_foot (by kernel_rfl)
        [fun v _ => v = .pointer (some ⟨p, 0, none⟩), fun v _ => v = .pointer (some ⟨p, 0, none⟩), fun v _ => v = .pointer (some ⟨p, 1, none⟩), fun v _ => v = .int .i64 e, fun v _ => v = .agg #[.int .i64 n0, .int .i64 n1, .int .i64 n2], fun v _ => v = .string wel, fun v _ => v = .agg #[.int .i64 2, .int .i64 e, .int .i64 0, .int .i64 0, .string wel],
         fun _ z => z.heap[w.heap.size + 1]? = some (.cells #[.int .i64 2, .int .i64 e, .int .i64 0, .int .i64 0, .string wel] 41 (0, 0)), fun v _ => v = .int .i64 0]
        [[(0, none)], [(41, some 0)], [(42, some 1)], [(43, some 2)], [(7, none)], [(45, some 4)], [(44, some 3), (46, some 5)], [(4, none), (47, some 6)], []] [some 41, some 42, some 43, some 44, some 45, some 46, some 47, none, some 5] [false, false, false, false, false, true, false, false, false, false, false, false, false, false, false, false, false, false, false, false, false, false, false, false, false, false, false, false, false, false, false, false, false, false, false, false, false, false, false, false, false, true, true, true, true, true, true, true]
        [(7, fun k => k = w.heap.size + 1)]
        (by kernel_rfl) (by kernel_rfl) (by kernel_rfl) (by kernel_rfl) (by kernel_rfl) ?_ ?_ ?_ ?_
      · repeat' (first | exact stable_eq _ | exact stable_blk _ _ | exact trivial | apply And.intro)
      · repeat' (first | exact trivial | exact .inl rfl | exact .inr (.inr (stableF_eq _ _)) | apply And.intro)
      · refine ⟨?_, ?_, ?_, ?_, ?_, ?_, ?_, ?_, ?_, trivial⟩
        case refine_8 =>
          intro a' z hb hf
          simp only [PlanFacts, List.getD_cons_zero, List.getD_cons_succ, Array.getD_eq_getD_getElem?] at hf
          try simp at hf
          have q0 := hb.blk (unhide HRR) (by
            rintro ⟨q, hq, g1, g2, g3⟩
            simp at hq
            subst hq
            exact g1 rfl)
          clear hb
          rw [if_pos (by rfl)]
          refine wp_store_row 41 (.tmp 4) (.tmp 47) rfl (w.heap.size + 1) #[.int .i64 2, .int .i64 e, .int .i64 0, .int .i64 0, .string wel] (by simp [Act.eval, hf]) (by simp [Act.eval, hf]) 41 _ q0 (by rw [size_frame]; rfl) rfl (by rw [Array.all_eq_true_iff_forall_mem]; intro u hu; simp at hu; rcases hu with rfl | rfl | rfl | rfl | rfl <;> rfl) ?_
          exact ⟨_, rfl, footOf_of (.head _) (far_setRow _ _ _), setRow_heap _ _ _ _ _ _ q0⟩
        case refine_9 =>
          intro a' z hb hf
          clear hb
          go_simp
          exact ⟨_, rfl, Far.refl _ _, rfl⟩
        all_goals
          intro a' z hb hf
          have hbz : Below wr.heap.size wr z := foot_below hb (by intro q hq; simp at hq; subst hq; show depB _ 7 _ = true; decide +kernel)
          have z1 := (hbz.cell (p := ⟨p, 1, none⟩) hpx).trans c14
          have e0 := (hbz.cell (p := ⟨g7, 0, none⟩) hgl).trans g0
          have e1 := (hbz.cell (p := ⟨g7, 1, none⟩) hgl).trans g1
          have e2 := (hbz.cell (p := ⟨g7, 2, none⟩) hgl).trans g2
          clear hb hbz
          simp only [PlanFacts, List.getD_cons_zero, List.getD_cons_succ, Array.getD_eq_getD_getElem?] at hf
          try simp at hf
          go_simp
          first
            | exact ⟨_, rfl, Far.refl _ _, rfl⟩
            | (refine (unhide (hWB z)).mono ?_; rintro r z2 ⟨rfl, hb2⟩; exact ⟨_, rfl, far_below hb2, rfl⟩)
            | skip
      · intro f z hF hwd
        have h8 := hwd.2.2.2.2.2.2.2.1
        have h9 := hwd.2.2.2.2.2.2.2.2.1
        have q0 : z.cell? ⟨w.heap.size + 1, 0, none⟩ = some (.int .i64 2) := blk_cell (i := 0) h8
        have q1 : z.cell? ⟨w.heap.size + 1, 1, none⟩ = some (.int .i64 e) := blk_cell (i := 1) h8
        have q2 : z.cell? ⟨w.heap.size + 1, 2, none⟩ = some (.int .i64 0) := blk_cell (i := 2) h8
        have q3 : z.cell? ⟨w.heap.size + 1, 3, none⟩ = some (.int .i64 0) := blk_cell (i := 3) h8
        have q4 : z.cell? ⟨w.heap.size + 1, 4, none⟩ = some (.string wel) := blk_cell (i := 4) h8
        have hF : Far (fun k => k = w.heap.size + 1) wr z := hF.mono (fun k _ h => by
          obtain ⟨q, hq, h⟩ := h
          simp at hq
          subst hq
          exact h)
        have HFZ := hide hF
        clear hwd hF h8
        simp only [mergeT, h9]
        generalize f 41 = x41
        generalize f 42 = x42
        generalize f 43 = x43
        generalize f 44 = x44
        generalize f 45 = x45
        generalize f 46 = x46
        generalize f 47 = x47
        go_simp
        go_wp2
        refine bodyPost_ret (v := .tuple #[.agg #[.int .i64 2, .int .i64 e, .int .i64 0, .int .i64 0, .string wel], .int .i64 0]) (by simp [results, Tryz.results109, go_sem, q0, q1, q2, q3, q4]) rfl ⟨rfl, ?_⟩
        obtain ⟨N2, t1, t2, hs2, O2⟩ := unhide HN2
        have hxb := (unhide HX).bel
        have hFz := unhide HFZ
        have hres : ¬ PkU p c2 (w.heap.size + 1) := pk_not_cells (unhide HKK) (unhide HRR) (by decide) (by decide) (by decide) (by decide) (by decide) (by decide) (by decide) (by decide)
        refine ⟨sh2, st2, ⟨c2, (unhide HKK).far hFz (fun k hk e => hres (by rw [← e]; exact hk)), ?_, fun k hk => (N2 k hk).imp id (fun h => Nat.le_trans hxb.size h), t1, t2⟩, hs2, O2⟩
        exact ((far_below (E := PkU p c) hxb).trans (unhide HFF) (fun _ _ h => h)).trans hFz (fun k hk e => by omega)
end Go.Proofs.YtamafdcnbcoegaaGreat
