/-
  Part 6 of a proof: G5, MonoCut, T2, T3, T4.
-/
import Derived.Test.YtamafdcnbcoegaaGreatTk5
namespace Go.Proofs.YtamafdcnbcoegaaGreat
open Go.RowKit

/-- The blocks of the first frames. -/
def Done (fs : List Value) (i b : Nat) : Prop := ∃ j, j < i ∧ ∃ v, fs[j]? = some v ∧ v.ownBlock = some b
theorem Done.mono {fs : List Value} {i i' b : Nat} (h : Done fs i b) (hi : i ≤ i') : Done fs i' b := by
  obtain ⟨j, hj, r⟩ := h
  exact ⟨j, by omega, r⟩

set_option maxRecDepth 100000 in
set_option maxHeartbeats 4000000 in
theorem same_yes (A : Nat → Nat → Prop) (w : World) (wb : Nat) (as_ ss hv lv wv : Value) (hs : List Nat) (fs : List Value) (Fl : List (List UInt8)) (H : WorldAt A w wb as_ ss hv hs) (hlen : fs.length = Fl.length)
    (hl : w.ownsRow 0 44 1 lv fs.length fs) (hm : ListAt w wv (txts Fl)) (hfr : ∀ (j : Nat) (v : Value), fs[j]? = some v → w.ownsRow 0 5 1 v (Fl.getD j []).length (bv (Fl.getD j [])))
    (hap : ∀ (i j : Nat) (u v : Value), fs[i]? = some u → fs[j]? = some v → i ≠ j → ∀ g, u.ownBlock = some g → v.ownBlock ≠ some g)
    (hA : ∀ b o, A b o → b < w.heap.size ∧ ¬ (lv.ownBlock = some b ∨ Done fs fs.length b ∨ Us wb hv b)) (z1 : hs.length + 4 * fs.length + 4 ≤ 17592186044416) (z2 : fs.length ≤ 900) (z3 : ∀ j, (Fl.getD j []).length ≤ 1000) :
    Calls Tryz.prog 120 #[ptrTo wb, lv, wv] w fun r w' => r = .returned (.bool true) ∧ ∃ hv2 hs2, hs2.length = hs.length + 4 * fs.length + 4 ∧ WorldAt (fun b o => (b < w'.heap.size ∧ ¬ Us wb hv2 b) ∧ (A b o ∨ (lv.ownBlock = some b ∨ Done fs fs.length b) ∨ w.heap.size ≤ b)) w' wb as_ ss hv2 hs2 ∧
      Far (fun k => (lv.ownBlock = some k ∨ Done fs fs.length k) ∨ Us wb hv k) w w' ∧ Loc w hv hv2 := by
  obtain ⟨la, lc, hlv, hl1, hl2, hl3⟩ := listAt_own hl
  obtain ⟨ma, mc, hmv, hm1, hm2, hm3⟩ := hm
  rw [txts_length, ← hlen] at hmv hm1 hm3
  subst hlv hmv
  have HL3 := hide hl3
  have HM3 := hide hm3
  have HL := hide hl
  have HH := hide H
  have HA := hide hA
  have HFR := hide hfr
  have HAP := hide hap
  have HLEN := hide hlen
  have HZ3 := hide z3
  obtain ⟨n, hn⟩ : ∃ n, n = fs.length := ⟨_, rfl⟩
  rw [← hn] at z1 z2 hl1 hm1 HL3 HM3 HL ⊢
  have HN := hide hn
  have n1 : n ≤ 9223372036854775807 := by omega
  clear hl3 hm3 hl H hA hfr hap hlen z3 hn
  unfold ptrTo
  go_enter Tryz.func120, Tryz.ntmps120
  go_wp2
  go_loopw [7, 8] (fun ok i wr => ∃ k : Nat, k ≤ n ∧ i = .int .i64 k ∧ ok = .bool true ∧ ∃ q, wr = w.drewN q) (fun _ i _ => n - (intOf i).toNat)
  case atStart => exact ⟨0, by omega, rfl, rfl, 0, rfl⟩
  case round =>
    obtain ⟨k, hk, rfl, rfl, q, rfl⟩ := hrel
    by_cases hlt : k < n
    · have hkf : k < fs.length := by have := unhide HN; omega
      obtain ⟨g, o, rfl, _, hc⟩ := (unhide HL3) (by omega)
      obtain ⟨g2, o2, rfl, _, hc2⟩ := (unhide HM3) (by omega)
      have y1 := hc k hlt
      rw [List.getElem?_eq_getElem hkf] at y1
      have hkF : k < Fl.length := by have := unhide HN; have := unhide HLEN; omega
      have y2 := (hc2 k hlt).trans (show (txts Fl)[k]? = some (.string ⟨(Fl.getD k []).toArray⟩) by simp [txts, hkF])
      have hrow := (unhide HFR) k fs[k] (List.getElem?_eq_getElem hkf)
      have hcs := fun m => ((bat_of_row (A := fun _ _ => True) (w := w) (by rw [bv_length]; exact hrow) (fun _ _ _ _ => trivial)).keep (w' := w.drewN m) (fun _ _ _ => rfl)).str
      clear hc hc2 hrow
      generalize fs[k] = fk at y1 hcs
      generalize Fl.getD k [] = bk at y2 hcs
      go_wp2
      go_quiet (fail)
      go_wp2
      go_roundw
      case rel => exact ⟨k + 1, by omega, by go_num, rfl, q + nq, by simp⟩
      case measure => simp [intOf]; omega
    · clear hk
      go_wp2
      go_loopw [9] (fun i wr => ∃ (k : Nat) (hv2 : Value) (hs2 : List Nat), k ≤ n ∧ i = .int .i64 k ∧ hs2.length = hs.length + 4 * k ∧ WorldAt (fun b o => (b < wr.heap.size ∧ ¬ Us wb hv2 b) ∧ (A b o ∨ Done fs k b ∨ w.heap.size ≤ b)) wr wb as_ ss hv2 hs2 ∧ Far (fun b => Done fs k b ∨ Us wb hv b) w wr ∧ Loc w hv hv2) (fun i _ => n - (intOf i).toNat)
      case atStart =>
        have hF : Far (fun b => Done fs 0 b ∨ Us wb hv b) w (w.drewN q) := far_below (below_drewN (Below.refl _ _) q)
        refine ⟨0, hv, hs, by omega, rfl, by simp, ⟨(unhide HH).blk, (unhide HH).row, fun x hx => (((unhide HH).all x hx).keep (w' := w.drewN q) (fun _ _ _ => rfl)).mono (fun b o h => ?_)⟩, hF, .inr (.inl rfl)⟩
        exact ⟨⟨((unhide HA) b o h).1, fun e => ((unhide HA) b o h).2 (.inr (.inr e))⟩, .inl h⟩
      case round =>
        obtain ⟨k, hv2, hs2, hk, rfl, hn2, W, hF, hL⟩ := hrel
        by_cases hltk : k < n
        · have hkf : k < fs.length := by have := unhide HN; omega
          obtain ⟨g, o, rfl, hgl, hc⟩ := (unhide HL3) (by omega)
          have hlu : ¬ (Done fs k g ∨ Us wb hv g) := by
            rintro (⟨j, hj, v, h1, h2⟩ | e | e)
            · exact own_ty ((unhide HFR) j v h1) (unhide HL) (by decide) h2 rfl
            · exact own_ne (unhide HL) (unhide HH).blk (by decide) (by rw [← e]; rfl)
            · exact own_ty (unhide HL) (unhide HH).row (by decide) rfl e
          have y1 := (World.cell?_of_block (a := ⟨g, o + k, none⟩) (hF.rest g hgl hlu)).trans (hc k hltk)
          rw [List.getElem?_eq_getElem hkf] at y1
          have hkv := List.getElem?_eq_getElem hkf
          have hrow := (unhide HFR) k fs[k] hkv
          have hno : ∀ b, (fs[k]).ownBlock = some b → ¬ (Done fs k b ∨ Us wb hv b) := by
            rintro b hb (⟨j, hj, v, h1, h2⟩ | e | e)
            · exact (unhide HAP) j k v fs[k] h1 hkv (by omega) b h2 hb
            · exact own_ne hrow (unhide HH).blk (by decide) (by rw [← e]; exact hb)
            · exact own_ty hrow (unhide HH).row (by decide) hb e
          have hroww := hF.own hrow hno
          have hz := (unhide HZ3) k
          have hlt0 := (World.ownsRow.lt hrow)
          obtain ⟨vk, hvk⟩ : ∃ vk, vk = fs[k] := ⟨_, rfl⟩
          rw [← hvk] at y1 hkv hrow hno hroww hlt0
          have HKV := hide hkv
          obtain ⟨va, vc, hva, _⟩ := Row.shape (A := fun _ => True) ⟨by have := hroww; rw [← bv_length] at this; exact this, fun _ _ => trivial⟩
          rw [bv_length] at hva
          have HK := hide (keepAll_any (fun b o => (b < wr.heap.size ∧ ¬ Us wb hv2 b) ∧ (A b o ∨ Done fs k b ∨ w.heap.size ≤ b)) (wr.alloc (.cells #[.slice none 0 0, vk, .slice none 0 0, .int .i64 0, .string ⟨#[]⟩, .string ⟨#[]⟩] 110)) wb wr.heap.size as_ ss hv2 (.slice none 0 0) vk (.slice none 0 0) hs2 [] [] (Fl.getD k [])
            ⟨(Below.heap_alloc _ _ _ (lt_of_block W.blk)).trans W.blk, World.ownsRow.alloc W.row _, fun x hx => (W.all x hx).keep (fun b o h => World.cell?_of_block (Below.heap_alloc wr _ b h.1.1))⟩
            (heap_alloc_new wr _) (World.ownsRow_nil _ _ _ _) (World.ownsRow.alloc hroww _) (World.ownsRow_nil _ _ _ _)
            (fun b o h => ⟨by have := h.1.1; simp; omega, fun e => by
              rcases e with e | (e | e | e) | e
              · have := h.1.1; omega
              · cases e
              · rcases h.2 with h2 | ⟨j, hj, v, h1, h2⟩ | h2
                · exact ((unhide HA) b o h2).2 (.inr (.inl ⟨k, hkf, vk, hkv, e⟩))
                · exact (unhide HAP) j k v vk h1 hkv (by omega) b h2 e
                · have := (hlt0 b e).2; omega
              · cases e
              · exact h.1.2 e⟩) (by omega) (by omega) (by simp) (by simp))
          unfold ptrTo at HK
          have HW := hide W
          have HF := hide hF
          have HL2 := hide hL
          have HLT0 := hide hlt0
          have HVK := hide hvk
          clear W hF hL hno hrow hroww hlu hc hz hlt0 hkv hvk hl2
          subst hva
          go_upto_region 8 with (go_at_call 76; refine (unhide HK).mono ?_; rintro r w3 ⟨rfl, hv3, hs3, hn3, W3, F3, L3⟩; have HW3 := hide W3; have HF3 := hide F3; have HL3b := hide L3; have HN3 := hide hn3; clear W3 F3 L3 hn3)
          clear y1
          go_wp2
          go_roundw
          case rel =>
            have hkv := unhide HKV
            refine ⟨k + 1, hv3, hs3, by omega, by go_num, by have := unhide HN3; omega, (unhide HW3).mono (fun b o h => ⟨h.1, ?_⟩), ?_, ?_⟩
            · rcases h.2 with h2 | h2 | h2 | h2
              · exact h2.2.elim .inl (fun h => h.elim (fun h => .inr (.inl (h.mono (by omega)))) (fun h => .inr (.inr h)))
              · exact .inr (.inr (by have := (unhide HF).size; omega))
              · rcases h2 with h2 | h2 | h2
                · cases h2
                · exact .inr (.inl ⟨k, by omega, _, hkv, h2⟩)
                · cases h2
              · exact .inr (.inr (by have := (unhide HF).size; simp at h2; omega))
            · have F1 : Far (fun b => Done fs (k + 1) b ∨ Us wb hv b) w wr := (unhide HF).mono (fun b _ h => h.elim (fun h => .inl (h.mono (by omega))) .inr)
              refine (F1.trans (far_below (E := fun b => Done fs (k + 1) b ∨ Us wb hv b) ((Below.refl wr.heap.size wr).alloc (Nat.le_refl _) _)) (fun _ _ h => h)).trans (unhide HF3) (fun b hb e => ?_)
              rcases e with e | (e | e | e) | e | e
              · have := (unhide HF).size; omega
              · cases e
              · exact .inl ⟨k, by omega, _, hkv, e⟩
              · cases e
              · exact .inr (.inl e)
              · rcases unhide HL2 with h | h | ⟨g', h, hg'⟩
                · rw [h] at e; cases e
                · exact .inr (.inr (h ▸ e))
                · rw [h] at e; injection e with e; omega
            · exact loc_trans (unhide HL2) ((unhide HL3b).mono (by simp)) (unhide HF).size
          case measure => simp [intOf]; omega
        · have hkn : n = k := by omega
          have hlu : ∀ g, (Value.slice la n lc).ownBlock = some g → ¬ (Done fs k g ∨ Us wb hv g) := by
            rintro g hg (⟨j, hj, v, h1, h2⟩ | e | e)
            · exact own_ty ((unhide HFR) j v h1) (unhide HL) (by decide) h2 hg
            · exact own_ne (unhide HL) (unhide HH).blk (by decide) (by rw [← e]; exact hg)
            · exact own_ty (unhide HL) (unhide HH).row (by decide) hg e
          have hlw := hF.own (unhide HL) hlu
          have hlt0 := World.ownsRow.lt (unhide HL)
          have HK := hide (keepAll_any (fun b o => (b < wr.heap.size ∧ ¬ Us wb hv2 b) ∧ (A b o ∨ Done fs k b ∨ w.heap.size ≤ b)) (wr.alloc (.cells #[.slice none 0 0, .slice none 0 0, .slice la n lc, .int .i64 0, .string ⟨#[]⟩, .string ⟨#[]⟩] 110)) wb wr.heap.size as_ ss hv2 (.slice none 0 0) (.slice none 0 0) (.slice la n lc) hs2 [] fs []
            ⟨(Below.heap_alloc _ _ _ (lt_of_block W.blk)).trans W.blk, World.ownsRow.alloc W.row _, fun x hx => (W.all x hx).keep (fun b o h => World.cell?_of_block (Below.heap_alloc wr _ b h.1.1))⟩
            (heap_alloc_new wr _) (World.ownsRow_nil _ _ _ _) (World.ownsRow_nil _ _ _ _) (by rw [← unhide HN]; exact World.ownsRow.alloc hlw _)
            (fun b o h => ⟨by have := h.1.1; simp; omega, fun e => by
              rcases e with e | (e | e | e) | e
              · have := h.1.1; omega
              · cases e
              · cases e
              · rcases h.2 with h2 | h2 | h2
                · exact ((unhide HA) b o h2).2 (.inl (by rw [← unhide HN]; exact e))
                · exact hlu b e (.inl h2)
                · have := (hlt0 b e).2; omega
              · exact h.1.2 e⟩) (by omega) (by simp) (by simp) (by have := unhide HN; omega))
          unfold ptrTo at HK
          have HF := hide hF
          have HL2 := hide hL
          have HKN := hide hkn
          clear W hF hL hlu hlw hlt0 hkn hk
          go_wp2_with (go_at_call 76; refine (unhide HK).mono ?_; rintro r w3 ⟨rfl, hv3, hs3, hn3, W3, F3, L3⟩; have HW3 := hide W3; have HF3 := hide F3; have HL3b := hide L3; have HN3 := hide hn3; clear W3 F3 L3 hn3)
          go_ret
          have hkn := unhide HKN
          refine ⟨rfl, hv3, hs3, by have := unhide HN3; omega, (unhide HW3).mono (fun b o h => ⟨h.1, ?_⟩), ?_, ?_⟩
          · rcases h.2 with h2 | h2 | h2 | h2
            · exact h2.2.elim .inl (fun h => h.elim (fun h => .inr (.inl (.inr (h.mono (by have := unhide HN; omega))))) (fun h => .inr (.inr h)))
            · exact .inr (.inr (by have := (unhide HF).size; omega))
            · rcases h2 with h2 | h2 | h2
              · cases h2
              · cases h2
              · exact .inr (.inl (.inl h2))
            · exact .inr (.inr (by have := (unhide HF).size; simp at h2; omega))
          · have F1 : Far (fun b => ((Value.slice la n lc).ownBlock = some b ∨ Done fs n b) ∨ Us wb hv b) w wr := (unhide HF).mono (fun b _ h => h.elim (fun h => .inl (.inr (h.mono (by have := unhide HN; omega)))) .inr)
            refine (F1.trans (far_below (E := fun b => ((Value.slice la n lc).ownBlock = some b ∨ Done fs n b) ∨ Us wb hv b) ((Below.refl wr.heap.size wr).alloc (Nat.le_refl _) _)) (fun _ _ h => h)).trans (unhide HF3) (fun b hb e => ?_)
            rcases e with e | (e | e | e) | e | e
            · have := (unhide HF).size; omega
            · cases e
            · cases e
            · exact .inl (.inl e)
            · exact .inr (.inl e)
            · rcases unhide HL2 with h | h | ⟨g', h, hg'⟩
              · rw [h] at e; cases e
              · exact .inr (.inr (h ▸ e))
              · rw [h] at e; injection e with e; omega
          · exact loc_trans (unhide HL2) ((unhide HL3b).mono (by simp)) (unhide HF).size
end Go.Proofs.YtamafdcnbcoegaaGreat
namespace Go.Proofs.YtamafdcnbcoegaaGreat
open Go.RowKit

/-- Every operation behind the cut waits for one from the cut on. -/
def lateB (ops : Array Oper) (c : Nat) : Bool := (List.range ops.size).all fun k => decide (k ≤ c) || (List.range ops.size).any fun j => decide (c ≤ j) && depB ops k j
/-- All up to the cut are through. -/
def doneTo (c n : Nat) : Array Bool := ((List.range n).map fun k => decide (k ≤ c)).toArray
theorem countP_range_le (i : Nat) : ∀ n, i ≤ n → (List.range n).countP (fun k => decide (i ≤ k)) = n - i
  | 0, h => by simp
  | n + 1, h => by
    rw [List.range_succ, List.countP_append, List.countP_singleton]
    by_cases hin : i ≤ n
    · rw [countP_range_le i n hin]; simp [hin]; omega
    · have : i = n + 1 := by omega
      subst this
      have h0 : (List.range n).countP (fun k => decide (n + 1 ≤ k)) = 0 := by
        rw [List.countP_eq_zero]
        intro k hk
        have := List.mem_range.1 hk
        simp; omega
      rw [h0]; simp

section
variable {P : Program} {ops : Array Oper} {Q : Exit → Act → World → Prop}

theorem mono_any_cut {a0 : Act} {w0 : World} (Φ : Nat → Value → World → Prop) (hok : monoOk ops a0.tmps.size = true) (last : Nat) (hn : last < ops.size) (hcov : coverB ops last = true) (hlate : lateB ops last = true)
    (hst : ∀ i v w w', Φ i v w → Below w.heap.size w w' → Φ i v w')
    (hop : ∀ i o, i < last → ops[i]? = some o → ∀ a w, Below w0.heap.size w0 w → GoodAct ops Φ a0 i o a w →
      if Region.wanted o (yielded ops a.tmps) = true then o.wp P a w (fun a' w' => ∃ v, a' = a.put o.dst v ∧ Below w.heap.size w w' ∧ Φ i v w') Q else Φ i undef w)
    (hend : ∀ a w, Below w0.heap.size w0 w → (∀ i o d, i < last → ops[i]? = some o → o.dst = some d → Φ i (a.tmps.getD d undef) w) → (∀ t, (∀ j, wr ops t = some j → last ≤ j) → a.tmps.getD t undef = a0.tmps.getD t undef) → a.defers = a0.defers → a.tmps.size = a0.tmps.size → wpOp P ops Q last (fun a' w' => ∀ fuel, ops.size ≤ fuel + last + 1 → wpAny P .any ops Q fuel (doneTo last ops.size) a' w') a w) :
    ∀ (fuel : Nat) (L : Array Bool) (a : Act) (w : World), MonoInv ops Φ a0 w0 L a w → (∀ k, last ≤ k → L.getD k false = false) → (List.range ops.size).countP (fun i => !L.getD i false) ≤ fuel → wpAny P .any ops Q fuel L a w := by
  have hrdy : ∀ (L : Array Bool) (a : Act) (w : World), MonoInv ops Φ a0 w0 L a w → L.getD last false = false → Region.ready .any ops L = [] → False := by
    intro L a w hI hlast hr
    have hall : ∀ n i, i < n → i < ops.size → L.getD i false = true := by
      intro n
      induction n with
      | zero => intro i h; omega
      | succ n ih =>
        intro i h hi
        by_cases hin : i < n
        · exact ih i hin hi
        · have e : i = n := by omega
          subst e
          cases hL : L.getD i false
          · exfalso
            have ho : ops[i]? = some ops[i] := Array.getElem?_eq_getElem hi
            obtain ⟨_, _, h3⟩ := monoOk_spec hok ho
            have : i ∈ Region.ready .any ops L := mem_ready.2 ⟨by
              have hs : i < L.size := by rw [hI.size]; exact hi
              rw [Array.getD_eq_getD_getElem?, Array.getElem?_eq_getElem hs] at hL ⊢
              exact hL, ops[i], ho, fun e he hb => by
              have hd : depB ops i e.on = true := by
                unfold depB
                rw [ho]
                exact Array.any_eq_true'.2 ⟨e, he, by simp [hb]⟩
              have hlt := h3 _ hd
              exact ih e.on hlt (by omega)⟩
            rw [hr] at this
            cases this
          · rfl
    have := hall ops.size last (by omega) (by omega)
    rw [hlast] at this; cases this
  have hcl : ∀ (L : Array Bool) (a : Act) (w : World), MonoInv ops Φ a0 w0 L a w → (∀ j, depB ops last j = true → L.getD j false = true) → ∀ n i, last ≤ i + n → i < last → L.getD i false = true := by
    intro L a w hI hdl n
    induction n with
    | zero => intro i h hi; omega
    | succ n ih =>
      intro i h hi
      unfold coverB at hcov
      have h1 := List.all_eq_true.1 hcov i (List.mem_range.2 hi)
      obtain ⟨k, hk, hd⟩ := List.any_eq_true.1 h1
      have hk' : k < last + 1 := List.mem_range.1 hk
      by_cases hkl : k = last
      · subst hkl; exact hdl i hd
      · have hlt : i < k := by
          unfold depB at hd
          cases hok' : ops[k]? with
          | none => rw [hok'] at hd; cases hd
          | some ok =>
            obtain ⟨_, _, h3⟩ := monoOk_spec hok hok'
            exact h3 i (by unfold depB; exact hd)
        exact hI.closed k (ih k (by omega) (by omega)) i hd
  have hwait : ∀ k, last < k → k < ops.size → ∃ j, last ≤ j ∧ depB ops k j = true := by
    intro k h1 h2
    unfold lateB at hlate
    have := List.all_eq_true.1 hlate k (List.mem_range.2 h2)
    simp only [Bool.or_eq_true, decide_eq_true_eq] at this
    rcases this with h | h
    · omega
    · obtain ⟨j, hj, hd⟩ := List.any_eq_true.1 h
      simp only [Bool.and_eq_true, decide_eq_true_eq] at hd
      exact ⟨j, hd.1, hd.2⟩
  intro fuel
  induction fuel with
  | zero =>
    intro L a w hI hun hc
    have hlast := hun last (Nat.le_refl _)
    have : 0 < (List.range ops.size).countP (fun i => !L.getD i false) := List.countP_pos_iff.2 ⟨last, List.mem_range.2 (by omega), by simp only [hlast]; rfl⟩
    omega
  | succ fuel ih =>
    intro L a w hI hun hc
    have hlast := hun last (Nat.le_refl _)
    refine ⟨fun h => (hrdy L a w hI hlast h).elim, fun i hi => ?_⟩
    obtain ⟨h0, o, ho, hdeps⟩ := mem_ready.1 hi
    have hlt : i < ops.size := (Array.getElem?_eq_some_iff.1 ho).1
    have hls : i < L.size := by rw [hI.size]; exact hlt
    have h0' : L.getD i false = false := by
      rw [Array.getD_eq_getD_getElem?, Array.getElem?_eq_getElem hls] at h0 ⊢
      exact h0
    obtain ⟨hd, hl, hlex⟩ := monoOk_spec hok ho
    have hdl : ∀ j, depB ops i j = true → L.getD j false = true := by
      intro j hj
      unfold depB at hj
      rw [ho] at hj
      obtain ⟨e, he, hb⟩ := Array.any_eq_true'.1 hj
      simp only [Bool.and_eq_true, beq_iff_eq] at hb
      rw [← hb.2]; exact hdeps e he hb.1
    by_cases hil : i = last
    · subst hil
      have hall := hcl L a w hI hdl i
      refine wpOp_mono ?_ (hend a w hI.ext (fun j o' d hj ho' hd' => hI.vals j o' d ho' hd' (hall j (by omega) hj)) (fun t ht => hI.rest t (fun j hj => hun j (ht j hj))) hI.defers hI.tsize)
      intro a' w' hq
      have hL : L.setIfInBounds i true = doneTo i ops.size := by
        apply Array.ext
        · simp [doneTo, hI.size]
        · intro k h1 h2
          have hk : k < ops.size := by simpa [doneTo] using h2
          simp only [doneTo, List.getElem_toArray, List.getElem_map, List.getElem_range]
          have hks : k < L.size := by rw [hI.size]; exact hk
          rw [Array.getElem_setIfInBounds (by exact hks)]
          by_cases hki : i = k
          · simp [hki]
          · rw [if_neg hki]
            have hg : L.getD k false = L[k] := by rw [Array.getD_eq_getD_getElem?, Array.getElem?_eq_getElem hks]; rfl
            by_cases hlt : k < i
            · rw [← hg, hall k (by omega) hlt]
              simp; omega
            · rw [← hg, hun k (by omega)]
              simp; omega
      rw [hL]
      refine hq fuel ?_
      have hcount : (List.range ops.size).countP (fun k => !L.getD k false) = ops.size - i := by
        have : (List.range ops.size).countP (fun k => !L.getD k false) = (List.range ops.size).countP (fun k => decide (i ≤ k)) := by
          apply List.countP_congr
          intro k hk
          have hk' := List.mem_range.1 hk
          by_cases hlt : k < i
          · rw [hall k (by omega) hlt]; simp; omega
          · rw [hun k (by omega)]; simp; omega
        rw [this]
        exact countP_range_le i ops.size (by omega)
      omega
    have hil2 : i < last := by
      rcases Nat.lt_or_ge last i with h | h
      · obtain ⟨j, hj, hd'⟩ := hwait i h hlt
        have := hdl j hd'
        rw [hun j hj] at this
        cases this
      · omega
    have hlt' : i < last := by omega
    have hgood : GoodAct ops Φ a0 i o a w := by
      intro t ht
      cases hw : wr ops t with
      | none => exact hI.rest t (fun j hj => by rw [hw] at hj; cases hj)
      | some j =>
        simp only []
        have hj := List.find?_some hw
        simp only [beq_iff_eq] at hj
        split
        · rename_i hdep
          cases hoj : ops[j]? with
          | none => rw [hoj] at hj; cases hj
          | some oj =>
            rw [hoj] at hj
            exact hI.vals j oj t hoj hj (hdl j hdep)
        · rename_i hdep
          refine hI.rest t (fun j' hj' => ?_)
          rw [hw] at hj'
          cases hj'
          rcases hl t ht j hw with h | h
          · exact absurd h hdep
          · cases hLj : L.getD j false
            · rfl
            · have := hI.closed j hLj i h
              rw [h0'] at this; cases this
    have hstep : ∀ v w', Below w.heap.size w w' → Φ i v w' → MonoInv ops Φ a0 w0 (L.setIfInBounds i true) (a.put o.dst v) w' := by
      intro v w' hb hv
      have hget : ∀ k, (L.setIfInBounds i true).getD k false = true ↔ (k = i ∨ L.getD k false = true) := by
        intro k
        by_cases hk : k = i
        · subst hk
          simp [Array.getD_eq_getD_getElem?, hls]
        · rw [getD_set_ne false (fun e => hk e.symm)]
          simp [hk]
      have hput : ∀ t, (a.put o.dst v).tmps.getD t undef = if o.dst = some t then v else a.tmps.getD t undef := by
        intro t
        cases hdst : o.dst with
        | none => simp [Act.put]
        | some d =>
          simp only [Act.put, Option.some.injEq]
          have hdsz : d < a.tmps.size := by rw [hI.tsize]; exact (hd d hdst).1
          by_cases h : d = t
          · subst h
            simp [Array.getD_eq_getD_getElem?, hdsz]
          · simp [Array.getD_eq_getD_getElem?, h]
      refine ⟨by simp [hI.size], hI.ext.trans (hb.mono hI.ext.size), ?_, ?_, ?_, ?_, ?_⟩
      · intro k hk j hj
        rw [hget] at hk ⊢
        rcases hk with rfl | hk
        · exact .inr (hdl j hj)
        · exact .inr (hI.closed k hk j hj)
      · intro k ok d hok' hdk hk
        rw [hget] at hk
        rw [hput]
        rcases hk with rfl | hk
        · rw [ho] at hok'; cases hok'
          rw [if_pos hdk]; exact hv
        · have hne : o.dst ≠ some d := by
            intro e
            have h1 := (hd d e).2
            have h2 := ((monoOk_spec hok hok').1 d hdk).2
            rw [h1] at h2
            cases h2
            rw [h0'] at hk; cases hk
          rw [if_neg hne]
          exact hst k _ _ _ (hI.vals k ok d hok' hdk hk) hb
      · intro t ht
        rw [hput]
        have hne : o.dst ≠ some t := by
          intro e
          have := ht i (hd t e).2
          have h2 := (hget i).2 (.inl rfl)
          rw [this] at h2; cases h2
        rw [if_neg hne]
        refine hI.rest t (fun j hj => ?_)
        cases hLj : L.getD j false
        · rfl
        · have := ht j hj
          rw [(hget j).2 (.inr hLj)] at this; cases this
      · cases o.dst <;> exact hI.defers
      · rw [← hI.tsize]; cases o.dst <;> simp [Act.put]
    have hcount : (List.range ops.size).countP (fun k => !(L.setIfInBounds i true).getD k false) ≤ fuel := by
      have := countP_lt (l := List.range ops.size) (p := fun k => !L.getD k false) (q := fun k => !(L.setIfInBounds i true).getD k false)
        (fun k _ hk => by
          by_cases hki : k = i
          · subst hki; simp [h0']
          · rw [getD_set_ne false (fun e => hki e.symm)] at hk; exact hk)
        ⟨i, List.mem_range.2 hlt, by simp [h0'], by simp [Array.getD_eq_getD_getElem?, hls]⟩
      omega
    have hun' : ∀ k, last ≤ k → (L.setIfInBounds i true).getD k false = false := fun k hk => by rw [getD_set_ne false (by omega)]; exact hun k hk
    have hg := hop i o hlt' ho a w hI.ext hgood
    unfold wpOp
    rw [ho]
    simp only []
    split at hg
    · rename_i hw
      rw [if_pos hw]
      refine .inl (Oper.wp_mono ?_ hg)
      rintro a' w' ⟨v, rfl, hb, hv⟩
      exact ih _ _ _ (hstep v w' hb hv) hun' hcount
    · rename_i hw
      rw [if_neg hw]
      exact ih _ _ _ (hstep undef w (Below.refl _ _) hg) hun' hcount


/-- The same where an operation may write whatever lies there: all ahead of it are through by then, and all behind it wait for it. -/
theorem wp_region_cut {id : Nat} {a0 : Act} {w0 : World} (hm : P.follows .mixedOrders = true) (L : List (Value → World → Prop)) (plan : List (List (Tmp × Option Nat))) (D : List (Option Tmp)) (M : List Bool) (last : Nat) (ol : Oper) (hol : ops[last]? = some ol) 
    (hn : last < ops.size) (hcov : coverB ops last = true) (hlate : lateB ops last = true)
    (hok : monoOk ops a0.tmps.size = true) (hplan : planOf ops = plan) (hD : dstsOf ops = D) (hM : maskOf ops a0.tmps.size = M) (hst : AllStable L) (hop : MonoOps P ops Q L a0 w0 (ops.toList.take last) plan L)
    (hwant : ∀ f w, AllWords f w (D.take last) L → Region.wanted ol (yielded ops (mergeT M a0.tmps.toList 0 f).toArray) = true)
    (hend : ∀ f w, Below w0.heap.size w0 w → AllWords f w (D.take last) L → ol.wp P { tmps := (mergeT M a0.tmps.toList 0 f).toArray, defers := a0.defers } w (fun a' w' => ∀ fuel, ops.size ≤ fuel + last + 1 → wpAny P .any ops Q fuel (doneTo last ops.size) a' w') Q) :
    (Code.region id ops true).wp P Q a0 w0 := by
  refine wp_region_any hm (mono_any_cut (w0 := w0) (fun i => L.getD i (fun _ _ => True)) hok last hn hcov hlate (fun i => allStable_get hst i) ?_ ?_ ops.size _ a0 _ ⟨by simp, (Below.refl _ _).drew, ?_, ?_, fun _ _ => rfl, rfl, rfl⟩ ?_ ?_)
  · intro i o hil ho a w hb hg
    have hlt : i < ops.size := (Array.getElem?_eq_some_iff.1 ho).1
    have hpl : plan[i]? = some ((o.looksAt ops).map fun t => (t, match wr ops t with
          | some j => if depB ops i j = true then some j else none
          | none => none)) := by
      rw [← hplan]
      unfold planOf
      rw [List.getElem?_map, List.getElem?_range hlt, Option.map_some, ho]
      rfl
    exact monoOps_get hop i o _ (by rw [List.getElem?_take, if_pos hil]; simpa using ho) hpl a w hb (planFacts_of rfl (o := o) _ hg)
  · intro a w hb hv hr hd hs
    have hwd : AllWords (fun t => a.tmps.getD t undef) w (D.take last) L := by
      rw [← hD, dstsOf, ← List.map_take]
      exact allWords_of (fun i o d ho hdd => by
        rw [List.getElem?_take] at ho
        split at ho
        · rename_i hil
          exact hv i o d hil (by simpa using ho) hdd
        · cases ho)
    have h := hend (fun t => a.tmps.getD t undef) w hb hwd
    have hw := hwant (fun t => a.tmps.getD t undef) w hwd
    have e : mergeT M a0.tmps.toList 0 (fun t => a.tmps.getD t undef) = a.tmps.toList := by
      refine mergeT_eq _ _ _ _ _ (by rw [← hM]; simp [maskOf]) (by simpa using hs) ?_ ?_
      · intro j hj _
        simp [Array.getD_eq_getD_getElem?, List.getD_eq_getElem?_getD]
      · intro j hj hb
        rw [← hM] at hb
        have hj' : j < a0.tmps.size := by rw [← hs]; simpa using hj
        have hw : wr ops j = none := by
          unfold maskOf at hb
          simp [List.getD_eq_getElem?_getD, List.getElem?_map, List.getElem?_range hj'] at hb
          exact hb
        have := hr j (fun k hk => by rw [hw] at hk; cases hk)
        simpa [Array.getD_eq_getD_getElem?, List.getD_eq_getElem?_getD] using this
    rw [e, ← hd] at h
    unfold wpOp
    rw [hol]
    simp only []
    rw [e] at hw
    rw [if_pos (by simpa using hw)]
    exact .inl h
  · intro k hk
    simp [Array.getD_eq_getD_getElem?] at hk
    rcases h : (Array.replicate ops.size false)[k]? with _ | b <;> simp [h] at hk
    subst hk
    obtain ⟨h1, h2⟩ := Array.getElem?_eq_some_iff.1 h
    simp at h2
  · intro i o d ho hd hk
    exfalso
    simp [Array.getD_eq_getD_getElem?] at hk
    rcases h : (Array.replicate ops.size false)[i]? with _ | b <;> simp [h] at hk
    subst hk
    obtain ⟨h1, h2⟩ := Array.getElem?_eq_some_iff.1 h
    simp at h2
  · intro k _
    rw [Array.getD_eq_getD_getElem?]
    by_cases hk : k < ops.size
    · simp [hk]
    · simp [hk]
  · exact Nat.le_trans List.countP_le_length (by simp)
/-- Behind the cut: one operation whose turn it is. -/
theorem wpAny_one {L : Array Bool} {i f : Nat} {o : Oper} {a : Act} {w : World} (hr : Region.ready .any ops L = [i]) (ho : ops[i]? = some o) (hw : Region.wanted o (yielded ops a.tmps) = true)
    (h : o.wp P a w (fun a' w' => wpAny P .any ops Q f (L.setIfInBounds i true) a' w') Q) : wpAny P .any ops Q (f + 1) L a w := by
  refine ⟨fun h0 => (by rw [hr] at h0; cases h0), fun j hj => ?_⟩
  rw [hr, List.mem_singleton] at hj
  subst hj
  unfold wpOp
  rw [ho]
  simp only []
  rw [if_pos (by simpa using hw)]
  exact .inl h
/-- .. two. -/
theorem wpAny_two {L : Array Bool} {i j f : Nat} {o o' : Oper} {a : Act} {w : World} (hr : Region.ready .any ops L = [i, j]) (ho : ops[i]? = some o) (ho' : ops[j]? = some o') (hw : Region.wanted o (yielded ops a.tmps) = true) (hw' : Region.wanted o' (yielded ops a.tmps) = true)
    (h : o.wp P a w (fun a' w' => wpAny P .any ops Q f (L.setIfInBounds i true) a' w') Q) (h' : o'.wp P a w (fun a' w' => wpAny P .any ops Q f (L.setIfInBounds j true) a' w') Q) : wpAny P .any ops Q (f + 1) L a w := by
  refine ⟨fun h0 => (by rw [hr] at h0; cases h0), fun k hk => ?_⟩
  rw [hr, List.mem_cons, List.mem_singleton] at hk
  unfold wpOp
  rcases hk with rfl | rfl
  · rw [ho]
    simp only []
    rw [if_pos (by simpa using hw)]
    exact .inl h
  · rw [ho']
    simp only []
    rw [if_pos (by simpa using hw')]
    exact .inl h'
theorem wpAny_end {L : Array Bool} {f : Nat} {a : Act} {w : World} (hr : Region.ready .any ops L = []) (h : Q .normal a w) : wpAny P .any ops Q f L a w := wpAny_done hr h _
end
end Go.Proofs.YtamafdcnbcoegaaGreat
namespace Go.Proofs.YtamafdcnbcoegaaGreat
open Go.RowKit

/-- What comes of bytes at a sink: an Errno, the sink behind it, the frames that come out. -/
def skSays (a : Mod.Sk) (l : List UInt8) : Int × Mod.Sk × List ByteArray :=
  if Wire.reads l = true then (0, skReply a (Wire.kindOf l) (Wire.epochOf l) (Wire.streamOf l).toNat (Wire.seqOf l).toNat (Wire.bodyOf l)) else (1, a, [])
/-- Frames that came out: a new list of new lists, apart from each other and from U. -/
structure FramesOut (B : Nat) (w : World) (lv : Value) (fs : List Value) (Fl : List ByteArray) (U : Nat → Prop) : Prop where
  len : fs.length = Fl.length
  row : w.ownsRow B 44 1 lv fs.length fs
  each : ∀ (j : Nat) (v : Value), fs[j]? = some v → w.ownsRow B 5 1 v ((Fl.map fun b => b.data.toList).getD j []).length (bv ((Fl.map fun b => b.data.toList).getD j []))
  apart : ∀ (i j : Nat) (u v : Value), fs[i]? = some u → fs[j]? = some v → i ≠ j → ∀ g, u.ownBlock = some g → v.ownBlock ≠ some g
  clear : ∀ k, (lv.ownBlock = some k ∨ Done fs fs.length k) → ¬ U k
/-- A program's sink, as its callers see it. -/
structure SinkC where
  At : World → Nat → Mod.Sk → (Nat → Prop) → Prop
  lt : ∀ {w v a U}, At w v a U → ∀ k, U k → k < w.heap.size
  far : ∀ {w w' v a U E}, At w v a U → Far E w w' → (∀ k, U k → ¬ E k) → At w' v a U
  deliver : ∀ {w v a U} (bs : Value) (l : List UInt8), At w v a U → SkGood a → BytesAt w bs l → Calls Tryz.prog 27 #[ptrTo v, bs] w fun r w' =>
    ∃ lv fs U', r = .returned (.tuple #[lv, .int .i64 (skSays a l).1]) ∧ FramesOut w.heap.size w' lv fs (skSays a l).2.2 U' ∧ At w' v (skSays a l).2.1 U' ∧ Far U w w' ∧ ∀ k, U' k → U k ∨ w.heap.size ≤ k
  epoch : ∀ {w v a U}, At w v a U → Calls Tryz.prog 42 #[ptrTo v] w fun r w' => r = .returned (.int .i64 a.epoch) ∧ Below w.heap.size w w'
  log : ∀ {w v a U} (i : Int), At w v a U → SkGood a → Calls Tryz.prog 32 #[ptrTo v, .int .i64 i] w fun r w' =>
    ∃ lv, r = .returned lv ∧ w'.ownsRow w.heap.size 9 1 lv (if 0 ≤ i ∧ i < 3 then a.logs i.toNat else []).length (strs (if 0 ≤ i ∧ i < 3 then a.logs i.toNat else [])) ∧ Below w.heap.size w w'
  opened : ∀ {w} (bs : Value), BytesAt w bs (List.replicate 7808 0) → Calls Tryz.prog 38 #[bs] w fun r w' =>
    ∃ v U, r = .returned (.tuple #[ptrTo v, .int .i64 0]) ∧ At w' v { epoch := 0, logs := fun _ => [], held := [] } U ∧ Below w.heap.size w w' ∧ ∀ k, U k → w.heap.size ≤ k

/-- The program's sink and the document's, side by side. -/
structure PairAt (C : SinkC) (x : World) (q sv rp : Nat) (a : Mod.Sk) (r : SRest) (lv : Nat → Value) (hk : Value) (U : Nat → Prop) (left : Int) : Prop where
  blk : x.heap[q]? = some (.cells #[ptrTo sv, ptrTo rp, .bool false, .int .i64 left] 134 (0, 0))
  prog : C.At x sv a U
  ref : SkAt x rp a r lv hk
  dead : r.dead = false
  good : SkGood a
  qU : ¬ U q
  qR : ¬ SkU rp lv hk q
  UR : ∀ k, U k → ¬ SkU rp lv hk k
def PairU (q rp : Nat) (lv : Nat → Value) (hk : Value) (U : Nat → Prop) (k : Nat) : Prop := k = q ∨ SkU rp lv hk k ∨ U k
theorem PairAt.far {C : SinkC} {w x : World} {q sv rp : Nat} {a : Mod.Sk} {r : SRest} {lv : Nat → Value} {hk : Value} {U : Nat → Prop} {left : Int} {E : Nat → Prop} (h : PairAt C w q sv rp a r lv hk U left) (hf : Far E w x) (hE : ∀ k, PairU q rp lv hk U k → ¬ E k) : PairAt C x q sv rp a r lv hk U left :=
  ⟨hf.blk h.blk (hE q (.inl rfl)), C.far h.prog hf (fun k hk' => hE k (.inr (.inr hk'))), h.ref.far hf (fun k hk' => hE k (.inr (.inl hk'))), h.dead, h.good, h.qU, h.qR, h.UR⟩
theorem PairAt.lt {C : SinkC} {w : World} {q sv rp : Nat} {a : Mod.Sk} {r : SRest} {lv : Nat → Value} {hk : Value} {U : Nat → Prop} {left : Int} (h : PairAt C w q sv rp a r lv hk U left) : ∀ k, PairU q rp lv hk U k → k < w.heap.size := by
  rintro k (rfl | hk' | hk')
  · exact lt_of_block h.blk
  · exact h.ref.lt k hk'
  · exact C.lt h.prog k hk'

set_option maxRecDepth 100000 in
set_option maxHeartbeats 1000000 in
theorem wrote_any (w : World) (q sv rp : Nat) (left : Int) (h : w.heap[q]? = some (.cells #[ptrTo sv, ptrTo rp, .bool false, .int .i64 left] 134 (0, 0))) :
    Calls Tryz.prog 171 #[.pointer (some ⟨q, 2, none⟩)] w fun r w' => r = .returned (.bool true) ∧ ∃ left', w' = w.setCell ⟨q, 3, none⟩ (.int .i64 left') := by
  have c2 : w.cell? ⟨q, 2, none⟩ = some (.bool false) := blk_cell (i := 2) h
  have c3 : w.cell? ⟨q, 3, none⟩ = some (.int .i64 left) := blk_cell (i := 3) h
  have f3 := blk_free (i := 3) h
  have c4 : ∀ v, (w.setCell ⟨q, 3, none⟩ v).cell? ⟨q, 2, none⟩ = some (.bool false) := fun v => by
    have := blk_cell (i := 2) (blk_set (j := 3) (v := v) h)
    simpa using this
  clear h
  go_enter Tryz.func171, Tryz.ntmps171
  go_wp2
  go_ret
  exact ⟨rfl, _, rfl⟩
end Go.Proofs.YtamafdcnbcoegaaGreat
namespace Go.Proofs.YtamafdcnbcoegaaGreat
open Go.RowKit

theorem wire_front_len (k e s q : Int) (b : List UInt8) : (Wire.bytes k e s q b).length = 15 + b.length := Wire.length_bytes k e s q b
theorem fence_size (n : Nat) : (fenceOf n).data.toList.length = 15 := by
  unfold fenceOf
  simp [wire_front_len]
theorem wel_size (a : Mod.Sk) (e : Nat) : (skWel a e).data.toList.length = 27 := by
  unfold skWel
  simp [wire_front_len, welB, le4S]
theorem ack_size (a : Mod.Sk) (k e : Int) (s qn : Nat) (b : ByteArray) : (skAck a k e s qn b).data.toList.length = 16 := by
  unfold skAck
  simp [wire_front_len, ackBody]
theorem skReply_small (a : Mod.Sk) (k e : Int) (s q : Nat) (b : ByteArray) : (skReply a k e s q b).2.length ≤ 1 ∧ ∀ x ∈ (skReply a k e s q b).2, x.data.toList.length ≤ 27 := by
  have h1 : ∀ c : ByteArray, c.data.toList.length ≤ 27 → ([c] : List ByteArray).length ≤ 1 ∧ ∀ x ∈ ([c] : List ByteArray), x.data.toList.length ≤ 27 := fun c h => ⟨by simp, fun x hx => by rw [List.mem_singleton] at hx; rw [hx]; exact h⟩
  unfold skReply
  repeat' split
  all_goals first
    | exact h1 _ (by rw [fence_size]; omega)
    | exact h1 _ (by rw [wel_size]; omega)
    | exact h1 _ (by rw [ack_size]; omega)
    | exact ⟨by simp, fun x hx => by cases hx⟩
theorem skSays_small (a : Mod.Sk) (l : List UInt8) : (skSays a l).2.2.length ≤ 1 ∧ ∀ x ∈ (skSays a l).2.2, x.data.toList.length ≤ 27 := by
  unfold skSays
  split
  · exact skReply_small _ _ _ _ _ _
  · simp

theorem FramesOut.keep {B : Nat} {w x : World} {lv : Value} {fs : List Value} {Fl : List ByteArray} {U : Nat → Prop} (h : FramesOut B w lv fs Fl U) (hk : ∀ k, (lv.ownBlock = some k ∨ Done fs fs.length k) → x.heap[k]? = w.heap[k]?) : FramesOut B x lv fs Fl U :=
  ⟨h.len, ownsRow_keep h.row (fun k hk' => hk k (.inl hk')), fun j v hv => ownsRow_keep (h.each j v hv) (fun k hk' => hk k (.inr ⟨j, (List.getElem?_eq_some_iff.1 hv).1, v, hv, hk'⟩)), h.apart, h.clear⟩
theorem FramesOut.lt {B : Nat} {w : World} {lv : Value} {fs : List Value} {Fl : List ByteArray} {U : Nat → Prop} (h : FramesOut B w lv fs Fl U) : ∀ k, (lv.ownBlock = some k ∨ Done fs fs.length k) → B ≤ k ∧ k < w.heap.size := by
  rintro k (h1 | ⟨j, _, v, h1, h2⟩)
  · exact World.ownsRow.lt h.row k h1
  · exact World.ownsRow.lt (h.each j v h1) k h2

/-- Behind Deliver, ahead of keep. -/
structure TL (C : SinkC) (w x : World) (q sv rp : Nat) (a a' : Mod.Sk) (r : SRest) (lv : Nat → Value) (hk : Value) (U U' : Nat → Prop) (left : Int) (s : ByteArray) (g n8 B : Nat) (fv : Value) (fs : List Value) (Fl : List ByteArray) : Prop where
  far : Far (PairU q rp lv hk U) w x
  lg : w.heap.size < g
  gB : g < B
  bx : B ≤ x.heap.size
  s3 : x.cell? ⟨w.heap.size, 3, none⟩ = some (.string s)
  own : x.ownsRow 0 5 1 (.slice (some ⟨g, 0, none⟩) n8 n8) n8 (bv (lentL s))
  blk : x.heap[q]? = some (.cells #[ptrTo sv, ptrTo rp, .bool false, .int .i64 left] 134 (0, 0))
  prog : C.At x sv a' U'
  ref : SkAt x rp a r lv hk
  out : FramesOut B x fv fs Fl U'
  new : ∀ k, U' k → U k ∨ B ≤ k
theorem TL.below {C : SinkC} {w x y : World} {q sv rp : Nat} {a a' : Mod.Sk} {r : SRest} {lv : Nat → Value} {hk : Value} {U U' : Nat → Prop} {left : Int} {s : ByteArray} {g n8 B : Nat} {fv : Value} {fs : List Value} {Fl : List ByteArray}
    (h : TL C w x q sv rp a a' r lv hk U U' left s g n8 B fv fs Fl) (hb : Below x.heap.size x y) : TL C w y q sv rp a a' r lv hk U U' left s g n8 B fv fs Fl := by
  have hl := h.lg
  have hg := h.gB
  have hx := h.bx
  have F : Far (fun _ => False) x y := far_below hb
  exact ⟨h.far.trans F (fun _ _ h => h.elim), hl, hg, Nat.le_trans hx hb.size, (hb.cell (p := ⟨w.heap.size, 3, none⟩) (by show w.heap.size < _; omega)).trans h.s3, F.own h.own (fun _ _ h => h), F.blk h.blk (fun h => h), C.far h.prog F (fun _ _ h => h), h.ref.far F (fun _ _ h => h),
    h.out.keep (fun k hk => hb.block k (h.out.lt k hk).2), h.new⟩
/-- Deliver's end, out of what stood ahead of it. -/
theorem TL.start {C : SinkC} {w x y : World} {q sv rp : Nat} {a a' : Mod.Sk} {r : SRest} {lv : Nat → Value} {hk : Value} {U U' : Nat → Prop} {left : Int} {s : ByteArray} {g n8 : Nat} {fv : Value} {fs : List Value} {Fl : List ByteArray}
    (P : PairAt C w q sv rp a r lv hk U left) (L : Lay w x s g n8) (hO : FramesOut x.heap.size y fv fs Fl U') (hA : C.At y sv a' U') (hF : Far U x y) (hN : ∀ k, U' k → U k ∨ x.heap.size ≤ k) : TL C w y q sv rp a a' r lv hk U U' left s g n8 x.heap.size fv fs Fl := by
  have hl := L.lt
  have hg := L.glt
  have hUl := C.lt P.prog
  have F1 : Far (fun _ => False) w x := far_below L.bel
  have P1 := P.far F1 (fun _ _ h => h)
  have hU : ∀ k, w.heap.size ≤ k → ¬ U k := fun k h hu => by have := hUl k hu; omega
  exact ⟨(F1.mono (fun _ _ h => h.elim)).trans hF (fun k _ h => .inr (.inr h)), hl, hg, hF.size, (World.cell?_of_block (hF.rest w.heap.size (by omega) (hU _ (Nat.le_refl _)))).trans L.s3,
    hF.own L.own (fun k hk => by cases hk; exact hU g (by omega)), hF.blk P1.blk P1.qU, hA, P1.ref.far hF (fun k hk hu => P1.UR k hu hk), hO, hN⟩

theorem own_g {g n m b : Nat} (h : (Value.slice (some ⟨g, 0, none⟩) n m).ownBlock = some b) : g = b := by injection h
theorem WorldAt.far {A : Nat → Nat → Prop} {E : Nat → Prop} {w x : World} {wb : Nat} {as_ ss hv : Value} {hs : List Nat} (h : WorldAt A w wb as_ ss hv hs) (hf : Far E w x) (hwb : ∀ k, Us wb hv k → ¬ E k) (hA : ∀ b o, A b o → b < w.heap.size ∧ ¬ E b) : WorldAt A x wb as_ ss hv hs :=
  ⟨hf.blk h.blk (hwb wb (.inl rfl)), hf.own h.row (fun g hg => hwb g (.inr hg)), fun p hp => (h.all p hp).keep (fun b o hb => World.cell?_of_block (hf.rest b (hA b o hb).1 (hA b o hb).2))⟩
theorem WorldAt.us_lt {A : Nat → Nat → Prop} {w : World} {wb : Nat} {as_ ss hv : Value} {hs : List Nat} (h : WorldAt A w wb as_ ss hv hs) : ∀ k, Us wb hv k → k < w.heap.size := by
  rintro k (rfl | hk)
  · exact lt_of_block h.blk
  · exact (World.ownsRow.lt h.row k hk).2

def Outs (fv : Value) (fs : List Value) (k : Nat) : Prop := fv.ownBlock = some k ∨ Done fs fs.length k
/-- Behind keep. -/
structure TM (C : SinkC) (A A2 : Nat → Nat → Prop) (w x : World) (wb q sv rp : Nat) (as_ ss hv hv2 : Value) (hs2 : List Nat) (ar ap : Mod.Sk) (r : SRest) (lv lvc : Nat → Value) (hk hkc : Value) (U U' : Nat → Prop) (left : Int) (B f : Nat) (k1 e1 s1 q1 : Int) (b1 : ByteArray) (fv : Value) (fs : List Value) (Fl : List ByteArray) : Prop where
  far : Far (fun k => PairU q rp lv hk U k ∨ Us wb hv k) w x
  wB : w.heap.size ≤ B
  wat : WorldAt A2 x wb as_ ss hv2 hs2
  a2 : ∀ b o, A2 b o → b < x.heap.size ∧ ¬ Us wb hv2 b ∧ ¬ PairU q rp lvc hkc U' b ∧ ¬ Outs fv fs b
  sub : ∀ b o, A2 b o → A b o ∨ w.heap.size ≤ b
  loc : Loc w hv hv2
  us : ∀ k, (PairU q rp lvc hkc U' k ∨ Outs fv fs k) → ¬ Us wb hv2 k
  blk : x.heap[q]? = some (.cells #[ptrTo sv, ptrTo rp, .bool false, .int .i64 left] 134 (0, 0))
  prog : C.At x sv ap U'
  ref : SkAt x rp ar r lvc hkc
  out : FramesOut B x fv fs Fl U'
  newU : ∀ k, U' k → U k ∨ w.heap.size ≤ k
  newR : ∀ k, SkU rp lvc hkc k → SkU rp lv hk k ∨ w.heap.size ≤ k
  qU : ¬ U' q
  qR : ¬ SkU rp lvc hkc q
  UR : ∀ k, U' k → ¬ SkU rp lvc hkc k
  outs : ∀ k, Outs fv fs k → ¬ PairU q rp lvc hkc U' k
  box : FrBox x f k1 e1 s1 q1 b1
  fl : f < x.heap.size
  fw : ¬ PairU q rp lvc hkc U' f

theorem TL.bat {C : SinkC} {w x : World} {q sv rp : Nat} {a a' : Mod.Sk} {r : SRest} {lv : Nat → Value} {hk : Value} {U U' : Nat → Prop} {left : Int} {s : ByteArray} {g n8 B : Nat} {fv : Value} {fs : List Value} {Fl : List ByteArray}
    (h : TL C w x q sv rp a a' r lv hk U U' left s g n8 B fv fs Fl) (hn : s.size + 8 = n8) : BAt (fun _ _ => True) x (.slice (some ⟨g, 0, none⟩) n8 n8) (lentL s) :=
  bat_of_row (by have := h.own; rw [bv_length, lentL_length, hn]; exact this) (fun _ _ _ _ => trivial)
/-- What keep asks. -/
theorem TL.world {C : SinkC} {A : Nat → Nat → Prop} {w x : World} {wb q sv rp : Nat} {as_ ss hv : Value} {hs : List Nat} {a a' : Mod.Sk} {r : SRest} {lv : Nat → Value} {hk : Value} {U U' : Nat → Prop} {left : Int} {s : ByteArray} {g n8 B : Nat} {fv : Value} {fs : List Value} {Fl : List ByteArray}
    (h : TL C w x q sv rp a a' r lv hk U U' left s g n8 B fv fs Fl) (H : WorldAt A w wb as_ ss hv hs) (hA : ∀ b o, A b o → b < w.heap.size ∧ ¬ Us wb hv b ∧ ¬ PairU q rp lv hk U b) (hPU : ∀ k, PairU q rp lv hk U k → ¬ Us wb hv k) (O : Obj) : WorldAt A (x.alloc O) wb as_ ss hv hs :=
  H.far (h.far.trans (far_below (E := fun _ => False) ((Below.refl _ _).alloc (Nat.le_refl _) O)) (fun _ _ h => h.elim)) (fun k hu hp => hPU k hp hu) (fun b o hb => ⟨(hA b o hb).1, (hA b o hb).2.2⟩)
theorem TL.keepA {C : SinkC} {A : Nat → Nat → Prop} {w x : World} {wb q sv rp : Nat} {hv : Value} {a a' : Mod.Sk} {r : SRest} {lv : Nat → Value} {hk : Value} {U U' : Nat → Prop} {left : Int} {s : ByteArray} {g n8 B : Nat} {fv : Value} {fs : List Value} {Fl : List ByteArray}
    (h : TL C w x q sv rp a a' r lv hk U U' left s g n8 B fv fs Fl) (hA : ∀ b o, A b o → b < w.heap.size ∧ ¬ Us wb hv b ∧ ¬ PairU q rp lv hk U b) (O : Obj) : ∀ b o, A b o → b < (x.alloc O).heap.size ∧ ¬ KeepG x.heap.size wb hv (.slice none 0 0) (.slice (some ⟨g, 0, none⟩) n8 n8) (.slice none 0 0) b := by
  intro b o hb
  have h1 := hA b o hb
  have h2 := h.lg
  have h3 := h.gB
  have h4 := h.bx
  refine ⟨by simp; omega, ?_⟩
  rintro (e | (e | e | e) | e)
  · omega
  · cases e
  · have := own_g e; have := h1.1; omega
  · cases e
  · exact h1.2.1 e
theorem TM.start {C : SinkC} {A : Nat → Nat → Prop} {w x y : World} {wb q sv rp : Nat} {as_ ss hv hv2 : Value} {hs hs2 : List Nat} {a a' : Mod.Sk} {r : SRest} {lv : Nat → Value} {hk : Value} {U U' : Nat → Prop} {left : Int} {s : ByteArray} {g n8 B f : Nat} {fv : Value} {fs : List Value} {Fl : List ByteArray} {k1 e1 s1 q1 : Int} {b1 : ByteArray} {O : Obj}
    (P : PairAt C w q sv rp a r lv hk U left) (T : TL C w x q sv rp a a' r lv hk U U' left s g n8 B fv fs Fl) (H : WorldAt A w wb as_ ss hv hs) (hA : ∀ b o, A b o → b < w.heap.size ∧ ¬ Us wb hv b ∧ ¬ PairU q rp lv hk U b) (hPU : ∀ k, PairU q rp lv hk U k → ¬ Us wb hv k)
    (hbox : FrBox x f k1 e1 s1 q1 b1) (hfl : f < x.heap.size) (hfB : w.heap.size ≤ f) (hfg : f ≠ g) (hfU : ¬ U' f)
    (hwat : WorldAt (fun b o => (b < y.heap.size ∧ ¬ Us wb hv2 b) ∧ (A b o ∨ b = x.heap.size ∨ ((Value.slice none 0 0).ownBlock = some b ∨ (Value.slice (some ⟨g, 0, none⟩) n8 n8).ownBlock = some b ∨ (Value.slice none 0 0).ownBlock = some b) ∨ (x.alloc O).heap.size ≤ b)) y wb as_ ss hv2 hs2)
    (hF : Far (KeepG x.heap.size wb hv (.slice none 0 0) (.slice (some ⟨g, 0, none⟩) n8 n8) (.slice none 0 0)) (x.alloc O) y) (hL : Loc (x.alloc O) hv hv2) :
    TM C A (fun b o => (b < y.heap.size ∧ ¬ Us wb hv2 b) ∧ (A b o ∨ b = x.heap.size ∨ ((Value.slice none 0 0).ownBlock = some b ∨ (Value.slice (some ⟨g, 0, none⟩) n8 n8).ownBlock = some b ∨ (Value.slice none 0 0).ownBlock = some b) ∨ (x.alloc O).heap.size ≤ b)) w y wb q sv rp as_ ss hv hv2 hs2 a a' r lv lv hk hk U U' left B f k1 e1 s1 q1 b1 fv fs Fl := by
  have h2 := T.lg
  have h3 := T.gB
  have h4 := T.bx
  have hs1 : (x.alloc O).heap.size = x.heap.size + 1 := by simp
  have hUs := H.us_lt
  have hPl := P.lt
  have hU'l := C.lt T.prog
  have hOl : ∀ k, Outs fv fs k → B ≤ k ∧ k < x.heap.size := T.out.lt
  have hU'c : ∀ k, U' k → U k ∨ B ≤ k := T.new
  have F1 : Far (fun _ => False) x (x.alloc O) := far_below ((Below.refl _ _).alloc (Nat.le_refl _) O)
  have hG : ∀ k, KeepG x.heap.size wb hv (.slice none 0 0) (.slice (some ⟨g, 0, none⟩) n8 n8) (.slice none 0 0) k → k = x.heap.size ∨ k = g ∨ Us wb hv k := by
    rintro k (e | (e | e | e) | e)
    · exact .inl e
    · cases e
    · exact .inr (.inl (own_g e).symm)
    · cases e
    · exact .inr (.inr e)
  have F2 : Far (fun k => k = x.heap.size ∨ k = g ∨ Us wb hv k) x y := (F1.mono (fun _ _ h => h.elim)).trans (hF.mono (fun k _ h => hG k h)) (fun _ _ h => h)
  have hpair : ∀ k, PairU q rp lv hk U' k → PairU q rp lv hk U k ∨ (U' k ∧ B ≤ k) := by
    rintro k (e | e | e)
    · exact .inl (.inl e)
    · exact .inl (.inr (.inl e))
    · exact (hU'c k e).elim (fun h => .inl (.inr (.inr h))) (fun h => .inr ⟨e, h⟩)
  have hpx : ∀ k, PairU q rp lv hk U' k → k < x.heap.size ∧ k ≠ g ∧ ¬ Us wb hv k := by
    intro k hk'
    rcases hpair k hk' with h | ⟨h, hB⟩
    · have := hPl k h
      exact ⟨by omega, by omega, hPU k h⟩
    · have := hU'l k h
      exact ⟨this, by omega, fun hu => by have := hUs k hu; omega⟩
  have hqk : PairU q rp lv hk U' q := .inl rfl
  have hOx : ∀ k, Outs fv fs k → k < x.heap.size ∧ k ≠ g ∧ ¬ Us wb hv k := fun k h => by
    have := hOl k h
    exact ⟨this.2, by omega, fun hu => by have := hUs k hu; omega⟩
  have hOP : ∀ k, Outs fv fs k → ¬ PairU q rp lv hk U' k := fun k h hp => by
    have h5 := hOl k h
    rcases hp with e | e | e
    · have := hPl k (.inl e); omega
    · have := hPl k (.inr (.inl e)); omega
    · exact T.out.clear k h e
  have hno : ∀ k, k < x.heap.size ∧ k ≠ g ∧ ¬ Us wb hv k → ¬ (k = x.heap.size ∨ k = g ∨ Us wb hv k) := by
    rintro k ⟨h1, h5, h6⟩ (e | e | e)
    · omega
    · exact h5 e
    · exact h6 e
  have hus2 : ∀ k, k < x.heap.size ∧ k ≠ g ∧ ¬ Us wb hv k → ¬ Us wb hv2 k := by
    rintro k ⟨h1, h5, h6⟩ (e | e)
    · exact h6 (.inl e)
    · rcases hL with h | h | ⟨g', h, hg'⟩
      · rw [h] at e; cases e
      · exact h6 (.inr (h ▸ e))
      · rw [h] at e; cases e; omega
  refine ⟨?_, by omega, hwat, ?_, ?_, ?_, ?_, F2.blk T.blk (hno q (hpx q hqk)), C.far T.prog F2 (fun k h => hno k (hpx k (.inr (.inr h)))), T.ref.far F2 (fun k h => hno k (hpx k (.inr (.inl h)))), T.out.keep (fun k h => F2.rest k (hOx k h).1 (hno k (hOx k h))),
    fun k h => (hU'c k h).imp id (by omega), fun k h => .inl h, ?_, P.qR, ?_, hOP, ?_, Nat.lt_of_lt_of_le hfl F2.size, ?_⟩
  · refine (T.far.mono (E' := fun k => PairU q rp lv hk U k ∨ Us wb hv k) (fun _ _ h => .inl h)).trans F2 ?_
    rintro k hk' (e | e | e)
    · omega
    · omega
    · exact .inr e
  · rintro b o ⟨⟨hb1, hb2⟩, hb3⟩
    refine ⟨hb1, hb2, fun hp => ?_, fun ho => ?_⟩
    · have hx := hpx b hp
      rcases hb3 with h | h | (h | h | h) | h
      · rcases hpair b hp with h7 | ⟨h7, hB⟩
        · exact (hA b o h).2.2 h7
        · have := (hA b o h).1; omega
      · omega
      · cases h
      · exact hx.2.1 (own_g h).symm
      · cases h
      · omega
    · have hx := hOx b ho
      rcases hb3 with h | h | (h | h | h) | h
      · have := (hA b o h).1; have := hOl b ho; omega
      · omega
      · cases h
      · exact hx.2.1 (own_g h).symm
      · cases h
      · omega
  · rintro b o ⟨_, hb3⟩
    rcases hb3 with h | h | (h | h | h) | h
    · exact .inl h
    · exact .inr (by omega)
    · cases h
    · have := own_g h; exact .inr (by omega)
    · cases h
    · exact .inr (by omega)
  · exact hL.mono (by omega)
  · rintro k (h | h)
    · exact hus2 k (hpx k h)
    · exact hus2 k (hOx k h)
  · intro h
    rcases hU'c q h with h | h
    · exact P.qU h
    · have := hPl q (.inl rfl); omega
  · intro k h hr
    rcases hU'c k h with h | h
    · exact P.UR k h hr
    · have := hPl k (.inr (.inl hr)); omega
  · refine hbox.kept (F2.rest f hfl (hno f ⟨hfl, hfg, fun hu => by have := hUs f hu; omega⟩))
  · rintro (e | e | e)
    · have := hPl f (.inl e); omega
    · have := hPl f (.inr (.inl e)); omega
    · exact hfU e
end Go.Proofs.YtamafdcnbcoegaaGreat
namespace Go.Proofs.YtamafdcnbcoegaaGreat
open Go.RowKit

section
variable {C : SinkC} {A A2 : Nat → Nat → Prop} {w x y : World} {wb q sv rp : Nat} {as_ ss hv hv2 : Value} {hs2 : List Nat} {ar ap : Mod.Sk} {r : SRest} {lv lvc : Nat → Value} {hk hkc : Value} {U U' : Nat → Prop} {left : Int} {B f : Nat} {k1 e1 s1 q1 : Int} {b1 : ByteArray} {fv : Value} {fs : List Value} {Fl : List ByteArray}
theorem TM.prlt (T : TM C A A2 w x wb q sv rp as_ ss hv hv2 hs2 ar ap r lv lvc hk hkc U U' left B f k1 e1 s1 q1 b1 fv fs Fl) : ∀ k, PairU q rp lvc hkc U' k → k < x.heap.size := by
  rintro k (rfl | h | h)
  · exact lt_of_block T.blk
  · exact T.ref.lt k h
  · exact C.lt T.prog k h
/-- What writes nothing of the pair, the holds, the frames and the box leaves all as it was. -/
theorem TM.any {E : Nat → Prop} (T : TM C A A2 w x wb q sv rp as_ ss hv hv2 hs2 ar ap r lv lvc hk hkc U U' left B f k1 e1 s1 q1 b1 fv fs Fl) (F : Far E x y) (hE : ∀ k, E k → w.heap.size ≤ k ∧ ¬ PairU q rp lvc hkc U' k ∧ ¬ Us wb hv2 k ∧ ¬ Outs fv fs k ∧ (∀ o, ¬ A2 k o) ∧ k ≠ f) :
    TM C A A2 w y wb q sv rp as_ ss hv hv2 hs2 ar ap r lv lvc hk hkc U U' left B f k1 e1 s1 q1 b1 fv fs Fl :=
  ⟨T.far.trans F (fun k hk he => by have := (hE k he).1; omega), T.wB, T.wat.far F (fun k hu he => (hE k he).2.2.1 hu) (fun b o h => ⟨(T.a2 b o h).1, fun he => (hE b he).2.2.2.2.1 o h⟩), fun b o h => ⟨Nat.lt_of_lt_of_le (T.a2 b o h).1 F.size, (T.a2 b o h).2⟩, T.sub, T.loc, T.us,
    F.blk T.blk (fun he => (hE q he).2.1 (.inl rfl)), C.far T.prog F (fun k h he => (hE k he).2.1 (.inr (.inr h))), T.ref.far F (fun k h he => (hE k he).2.1 (.inr (.inl h))), T.out.keep (fun k h => F.rest k (T.out.lt k h).2 (fun he => (hE k he).2.2.2.1 h)), T.newU, T.newR, T.qU, T.qR, T.UR, T.outs,
    T.box.kept (F.rest f T.fl (fun he => (hE f he).2.2.2.2.2 rfl)), Nat.lt_of_lt_of_le T.fl F.size, T.fw⟩
theorem TM.below (T : TM C A A2 w x wb q sv rp as_ ss hv hv2 hs2 ar ap r lv lvc hk hkc U U' left B f k1 e1 s1 q1 b1 fv fs Fl) (hb : Below x.heap.size x y) : TM C A A2 w y wb q sv rp as_ ss hv hv2 hs2 ar ap r lv lvc hk hkc U U' left B f k1 e1 s1 q1 b1 fv fs Fl :=
  T.any (E := fun _ => False) (far_below hb) (fun _ h => h.elim)
/-- A store into the pair's own block. -/
theorem TM.wrote (T : TM C A A2 w x wb q sv rp as_ ss hv hv2 hs2 ar ap r lv lvc hk hkc U U' left B f k1 e1 s1 q1 b1 fv fs Fl) (hfq : f ≠ q) (left' : Int) :
    TM C A A2 w (x.setCell ⟨q, 3, none⟩ (.int .i64 left')) wb q sv rp as_ ss hv hv2 hs2 ar ap r lv lvc hk hkc U U' left' B f k1 e1 s1 q1 b1 fv fs Fl := by
  have F := far_set x q 3 (.int .i64 left')
  have hq : PairU q rp lvc hkc U' q := .inl rfl
  have hqw : PairU q rp lv hk U q := .inl rfl
  refine ⟨T.far.trans F (fun k _ e => .inl (e ▸ hqw)), T.wB, T.wat.far F (fun k hu e => T.us q (.inl hq) (e ▸ hu)) (fun b o h => ⟨(T.a2 b o h).1, fun e => (T.a2 b o h).2.2.1 (e ▸ hq)⟩), fun b o h => ⟨Nat.lt_of_lt_of_le (T.a2 b o h).1 F.size, (T.a2 b o h).2⟩, T.sub, T.loc, T.us,
    ?_, C.far T.prog F (fun k h e => T.qU (e ▸ h)), T.ref.far F (fun k h e => T.qR (e ▸ h)), T.out.keep (fun k h => F.rest k (T.out.lt k h).2 (fun e => T.outs k h (e ▸ hq))), T.newU, T.newR, T.qU, T.qR, T.UR, T.outs, T.box.kept (F.rest f T.fl hfq), Nat.lt_of_lt_of_le T.fl F.size, T.fw⟩
  have := blk_set (j := 3) (v := .int .i64 left') T.blk
  simpa using this
/-- What the document's Deliver leaves. -/
theorem TM.step {ar' : Mod.Sk} (T : TM C A A2 w x wb q sv rp as_ ss hv hv2 hs2 ar ap r lv lvc hk hkc U U' left B f k1 e1 s1 q1 b1 fv fs Fl) (hS : SkStep x y rp ar' r lvc hkc) :
    ∃ lvd hkd, TM C A A2 w y wb q sv rp as_ ss hv hv2 hs2 ar' ap r lv lvd hk hkd U U' left B f k1 e1 s1 q1 b1 fv fs Fl := by
  obtain ⟨lvd, hkd, R', F, hN⟩ := hS
  have hUl := C.lt T.prog
  have hpair : ∀ k, PairU q rp lvd hkd U' k → PairU q rp lvc hkc U' k ∨ x.heap.size ≤ k := by
    rintro k (h | h | h)
    · exact .inl (.inl h)
    · exact (hN k h).imp (fun h => .inr (.inl h)) id
    · exact .inl (.inr (.inr h))
  have hql := lt_of_block T.blk
  refine ⟨lvd, hkd, T.far.trans F (fun k hk h => .inl ((T.newR k h).elim (fun h => .inr (.inl h)) (fun h => by omega))), T.wB, T.wat.far F (fun k hu h => T.us k (.inl (.inr (.inl h))) hu) (fun b o h => ⟨(T.a2 b o h).1, fun e => (T.a2 b o h).2.2.1 (.inr (.inl e))⟩), fun b o h => ⟨Nat.lt_of_lt_of_le (T.a2 b o h).1 F.size, (T.a2 b o h).2.1, fun hp => (hpair b hp).elim (T.a2 b o h).2.2.1 (fun hx => by have := (T.a2 b o h).1; omega), (T.a2 b o h).2.2.2⟩, T.sub, T.loc, ?_,
    F.blk T.blk T.qR, C.far T.prog F T.UR, R', T.out.keep (fun k h => F.rest k (T.out.lt k h).2 (fun e => T.outs k h (.inr (.inl e)))), T.newU, fun k h => (hN k h).elim (T.newR k) (fun hx => .inr (by have := T.far.size; omega)), T.qU, fun h => (hN q h).elim T.qR (fun hx => by omega), fun k h hr => (hN k hr).elim (T.UR k h) (fun hx => by have := hUl k h; omega), fun k h hp => (hpair k hp).elim (T.outs k h) (fun hx => by have := (T.out.lt k h).2; omega),
    T.box.kept (F.rest f T.fl (fun e => T.fw (.inr (.inl e)))), Nat.lt_of_lt_of_le T.fl F.size, fun hp => (hpair f hp).elim T.fw (fun hx => by have := T.fl; omega)⟩
  rintro k (h | h)
  · rcases hpair k h with h | h
    · exact T.us k (.inl h)
    · intro hu
      have := T.wat.us_lt k hu
      omega
  · exact T.us k (.inr h)
/-- What is so of the pair and the world when all is done. -/
structure TakenAt (C : SinkC) (A : Nat → Nat → Prop) (w y : World) (wb q sv rp : Nat) (as_ ss hv : Value) (a' : Mod.Sk) (r : SRest) (lv : Nat → Value) (hk : Value) (U : Nat → Prop) (N : Nat) : Prop where
  all : ∃ (hv3 : Value) (hs3 : List Nat) (lvd : Nat → Value) (hkd : Value) (U' : Nat → Prop) (left : Int), hs3.length ≤ N ∧
    WorldAt (fun b o => b < y.heap.size ∧ ¬ Us wb hv3 b ∧ ¬ PairU q rp lvd hkd U' b ∧ (A b o ∨ w.heap.size ≤ b)) y wb as_ ss hv3 hs3 ∧ PairAt C y q sv rp a' r lvd hkd U' left ∧
    (∀ k, PairU q rp lvd hkd U' k → PairU q rp lv hk U k ∨ w.heap.size ≤ k) ∧ (∀ k, PairU q rp lvd hkd U' k → ¬ Us wb hv3 k) ∧ Far (fun k => PairU q rp lv hk U k ∨ Us wb hv k) w y ∧ Loc w hv hv3
theorem TM.done {hv3 : Value} {hs3 : List Nat} {N : Nat} (T : TM C A A2 w x wb q sv rp as_ ss hv hv2 hs2 ap ap r lv lvc hk hkc U U' left B f k1 e1 s1 q1 b1 fv fs Fl) (hd : r.dead = false) (G : SkGood ap)
    (W : WorldAt (fun b o => (b < y.heap.size ∧ ¬ Us wb hv3 b) ∧ (A2 b o ∨ (fv.ownBlock = some b ∨ Done fs fs.length b) ∨ x.heap.size ≤ b)) y wb as_ ss hv3 hs3) (F : Far (fun k => (fv.ownBlock = some k ∨ Done fs fs.length k) ∨ Us wb hv2 k) x y) (L : Loc x hv2 hv3) (hN : hs3.length ≤ N) (hw : w.heap.size ≤ x.heap.size)
    (hus : ∀ k, Us wb hv2 k → k < w.heap.size → Us wb hv k) : TakenAt C A w y wb q sv rp as_ ss hv ap r lv hk U N := by
  have hpl := T.prlt
  have hpE : ∀ k, PairU q rp lvc hkc U' k → ¬ ((fv.ownBlock = some k ∨ Done fs fs.length k) ∨ Us wb hv2 k) := by
    rintro k h (e | e)
    · exact T.outs k e h
    · exact T.us k (.inl h) e
  have hus3 : ∀ k, PairU q rp lvc hkc U' k → ¬ Us wb hv3 k := by
    rintro k h (e | e)
    · exact T.us k (.inl h) (.inl e)
    · rcases L with h' | h' | ⟨g', h', hg'⟩
      · rw [h'] at e; cases e
      · exact T.us k (.inl h) (.inr (h' ▸ e))
      · rw [h'] at e; injection e with e; have := hpl k h; omega
  have hout := T.out.lt
  refine ⟨hv3, hs3, lvc, hkc, U', left, hN, W.mono ?_, ?_, ?_, hus3, ?_, loc_trans T.loc L hw⟩
  · rintro b o ⟨⟨h1, h2⟩, h3⟩
    refine ⟨h1, h2, fun hp => ?_, ?_⟩
    · rcases h3 with h | h | h
      · exact (T.a2 b o h).2.2.1 hp
      · exact T.outs b h hp
      · have := hpl b hp; omega
    · rcases h3 with h | h | h
      · exact T.sub b o h
      · exact .inr (by have := (hout b h).1; have := T.wB; omega)
      · exact .inr (by omega)
  · exact ⟨F.blk T.blk (hpE q (.inl rfl)), C.far T.prog F (fun k h => hpE k (.inr (.inr h))), T.ref.far F (fun k h => hpE k (.inr (.inl h))), hd, G, T.qU, T.qR, T.UR⟩
  · rintro k (h | h | h)
    · exact .inl (.inl h)
    · exact (T.newR k h).imp (fun h => .inr (.inl h)) id
    · exact (T.newU k h).imp (fun h => .inr (.inr h)) id
  · refine T.far.trans F (fun k hk h => ?_)
    rcases h with h | h
    · have := (hout k h).1; have := T.wB; omega
    · exact .inr (hus k h hk)
theorem row_zero {B : Nat} {w : World} {e : TypeId} {size n : Nat} {v : Value} {xs : List Value} (h : w.ownsRow B e size v n xs) : w.ownsRow 0 e size v n xs := by
  obtain ⟨h1, h2⟩ := h
  refine ⟨h1, ?_⟩
  rcases h2 with h2 | ⟨g, cap, cur, h3, _, h4⟩
  · exact .inl h2
  · exact .inr ⟨g, cap, cur, h3, Nat.zero_le _, h4⟩
theorem txts_strs (Fl : List ByteArray) : txts (Fl.map fun b => b.data.toList) = strs Fl := by
  unfold txts strs
  rw [List.map_map]
  apply List.map_congr_left
  intro b _
  simp
set_option maxRecDepth 100000 in
theorem TM.same {hsl : Nat} (T : TM C A A2 w x wb q sv rp as_ ss hv hv2 hs2 ap ap r lv lvc hk hkc U U' left B f k1 e1 s1 q1 b1 fv fs Fl) (hd : r.dead = false) (G : SkGood ap) (wv : Value) (hm : ListAt x wv (strs Fl)) (hsm : Fl.length ≤ 1 ∧ ∀ b ∈ Fl, b.data.toList.length ≤ 27) (hn : hs2.length = hsl + 4) (zh : hsl + 12 ≤ 17592186044416) :
    Calls Tryz.prog 120 #[ptrTo wb, fv, wv] x fun e w' => e = .returned (.bool true) ∧ TakenAt C A w w' wb q sv rp as_ ss hv ap r lv hk U (hsl + 12) := by
  have hl := T.out.len
  have h1 := hsm.1
  have hz : ∀ j, ((Fl.map fun b => b.data.toList).getD j []).length ≤ 1000 := by
    intro j
    rw [List.getD_eq_getElem?_getD]
    rcases Nat.lt_or_ge j Fl.length with h | h
    · have := hsm.2 Fl[j] (List.getElem_mem h)
      rw [List.getElem?_map, List.getElem?_eq_getElem h]
      simp at this ⊢
      omega
    · rw [List.getElem?_eq_none (by simpa using h)]
      simp
  refine (same_yes A2 x wb as_ ss hv2 fv wv hs2 fs (Fl.map fun b => b.data.toList) T.wat (by simpa using hl) (row_zero T.out.row) (by rw [txts_strs]; exact hm) (fun j v h => row_zero (T.out.each j v h)) T.out.apart ?_ (by omega) (by omega) hz).mono ?_
  · intro b o h
    have h2 := T.a2 b o h
    refine ⟨h2.1, ?_⟩
    rintro (e | e | e)
    · exact h2.2.2.2 (.inl e)
    · exact h2.2.2.2 (.inr e)
    · exact h2.2.1 e
  · rintro e w' ⟨rfl, hv3, hs3, hn3, W, F, L⟩
    refine ⟨rfl, T.done hd G W F L (by omega) T.far.size ?_⟩
    rintro k (e | e) hk'
    · exact .inl e
    · rcases T.loc with h | h | ⟨g', h, hg'⟩
      · rw [h] at e; cases e
      · exact .inr (h ▸ e)
      · rw [h] at e; injection e with e; omega
end
end Go.Proofs.YtamafdcnbcoegaaGreat
