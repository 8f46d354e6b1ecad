/-
  Walks of courierlaw's holds: text, sign.
-/
import Derived.Test.YtamafdcnbcoegaaGreatH1
namespace Go.Proofs.YtamafdcnbcoegaaGreat
open Go.RowKit

theorem bv3 {a b c : Int} (ha : 0 ≤ a ∧ a < 256) (hb : 0 ≤ b ∧ b < 256) (hc : 0 ≤ c ∧ c < 256) : ∃ l : List UInt8, l.length = 3 ∧ bv l = [.int .u8 a, .int .u8 b, .int .u8 c] := by
  refine ⟨[UInt8.ofNat (a.toNat % 256)] ++ [UInt8.ofNat (b.toNat % 256)] ++ [UInt8.ofNat (c.toNat % 256)], rfl, ?_⟩
  rw [bv_append, bv_append, bv_byte ha.1 ha.2, bv_byte hb.1 hb.2, bv_byte hc.1 hc.2]
  rfl

set_option maxRecDepth 100000 in
set_option maxHeartbeats 400000 in
theorem text_any (m : Int) (w : World) :
    Calls Tryz.prog 114 #[.int .i64 m] w fun r w' => ∃ s : ByteArray, r = .returned (.string s) ∧ s.size = 3 ∧ Below w.heap.size w w' := by
  obtain ⟨l, hl, hb⟩ := bv3 (a := 35) (b := m % 256) (c := m / 256 % 256) (by omega) (by omega) (by omega)
  have hc := conv_new (w := w) (l := l) hl
  rw [hb] at hc
  have HS : Hid ((⟨l.toArray⟩ : ByteArray).size = 3) := by show _ = _; simp [ByteArray.size, hl]
  clear hb hl
  generalize (⟨l.toArray⟩ : ByteArray) = s at hc HS
  go_enter Tryz.func114, Tryz.ntmps114
  go_wp2
  go_ret
  exact ⟨s, rfl, unhide HS, (Below.refl _ _).alloc (Nat.le_refl _) _⟩

/-- The sign's byte, as the walk spells it. -/
def signV (m i : Int) : Int := wrap64 (m + wrap64 (i * wrap64 (1 + wrap64 (m.tdiv 256)))) % 256
theorem signV_range (m i : Int) : 0 ≤ signV m i ∧ signV m i < 256 := ⟨Int.emod_nonneg _ (by decide), Int.emod_lt_of_pos _ (by decide)⟩
set_option maxHeartbeats 400000 in
theorem sign_any (m i : Int) (w : World) :
    Calls Tryz.prog 167 #[.int .i64 m, .int .i64 i] w fun r w' => r = .returned (.int .u8 (signV m i)) ∧ w' = w := by
  go_enter Tryz.func167, Tryz.ntmps167
  go_wp2
  go_ret
  exact ⟨rfl, rfl⟩

/-- Bytes behind a slice, in a block that A lets. -/
def BAt (A : Nat → Nat → Prop) (w : World) (v : Value) (l : List UInt8) : Prop :=
  ∃ ad cap, v = .slice ad l.length cap ∧ l.length ≤ cap ∧ l.length ≤ 9223372036854775807 ∧
    (0 < l.length → ∃ b off, ad = some ⟨b, off, none⟩ ∧ (∀ i, i < l.length → A b (off + i)) ∧ ∀ i, i < l.length → w.cell? ⟨b, off + i, none⟩ = some (.int .u8 (l.getD i 0).toNat))
theorem BAt.keep {A : Nat → Nat → Prop} {w w' : World} {v : Value} {l : List UInt8} (h : BAt A w v l) (hk : ∀ b o, A b o → w'.cell? ⟨b, o, none⟩ = w.cell? ⟨b, o, none⟩) : BAt A w' v l := by
  obtain ⟨ad, cap, hv, h1, h2, h3⟩ := h
  refine ⟨ad, cap, hv, h1, h2, fun h0 => ?_⟩
  obtain ⟨b, off, e, hA, hc⟩ := h3 h0
  exact ⟨b, off, e, hA, fun i hi => (hk b _ (hA i hi)).trans (hc i hi)⟩
theorem BAt.mono {A A' : Nat → Nat → Prop} {w : World} {v : Value} {l : List UInt8} (h : BAt A w v l) (hA : ∀ b o, A b o → A' b o) : BAt A' w v l := by
  obtain ⟨ad, cap, hv, h1, h2, h3⟩ := h
  refine ⟨ad, cap, hv, h1, h2, fun h0 => ?_⟩
  obtain ⟨b, off, e, hb, hc⟩ := h3 h0
  exact ⟨b, off, e, fun i hi => hA _ _ (hb i hi), hc⟩
/-- Values behind a slice, in cells that A lets. -/
def Rd (A : Nat → Nat → Prop) (w : World) (v : Value) (xs : List Value) : Prop :=
  ∃ ad cap, v = .slice ad xs.length cap ∧ xs.length ≤ cap ∧ cap ≤ maxLen ∧ (0 < xs.length → ∃ g, ad = some ⟨g, 0, none⟩ ∧ ∀ i, i < xs.length → A g i ∧ w.cell? ⟨g, i, none⟩ = xs[i]?)
theorem Rd.keep {A : Nat → Nat → Prop} {w w' : World} {v : Value} {xs : List Value} (h : Rd A w v xs) (hk : ∀ b o, A b o → w'.cell? ⟨b, o, none⟩ = w.cell? ⟨b, o, none⟩) : Rd A w' v xs := by
  obtain ⟨ad, cap, hv, h1, h2, h3⟩ := h
  refine ⟨ad, cap, hv, h1, h2, fun h0 => ?_⟩
  obtain ⟨g, e, hc⟩ := h3 h0
  exact ⟨g, e, fun i hi => ⟨(hc i hi).1, (hk _ _ (hc i hi).1).trans (hc i hi).2⟩⟩
theorem Rd.mono {A A' : Nat → Nat → Prop} {w : World} {v : Value} {xs : List Value} (h : Rd A w v xs) (hA : ∀ b o, A b o → A' b o) : Rd A' w v xs := by
  obtain ⟨ad, cap, hv, h1, h2, h3⟩ := h
  refine ⟨ad, cap, hv, h1, h2, fun h0 => ?_⟩
  obtain ⟨g, e, hc⟩ := h3 h0
  exact ⟨g, e, fun i hi => ⟨hA _ _ (hc i hi).1, (hc i hi).2⟩⟩
theorem rd_of_row {A : Nat → Nat → Prop} {w : World} {e : TypeId} {v : Value} {xs : List Value} (h : w.ownsRow 0 e 1 v xs.length xs) (hA : ∀ g, v.ownBlock = some g → ∀ i, i < xs.length → A g i) : Rd A w v xs := by
  obtain ⟨ad, cap, rfl, h1, h2, h3⟩ := (show Row (fun g => v.ownBlock = some g) w e v xs from ⟨h, fun g hg => hg⟩).shape
  refine ⟨ad, cap, rfl, h1, h2, fun h0 => ?_⟩
  obtain ⟨g, rfl, hg, hc⟩ := h3 h0
  exact ⟨g, rfl, fun i hi => ⟨hA g hg i hi, hc i hi⟩⟩

/-- string(v): whatever the bytes. -/
theorem BAt.str {A : Nat → Nat → Prop} {w : World} {v : Value} {l : List UInt8} (h : BAt A w v l) : (convert 44 9 v).run Tryz.prog w = .ok (.string ⟨l.toArray⟩) w := by
  obtain ⟨ad, cap, rfl, h1, h2, h3⟩ := h
  by_cases h0 : 0 < l.length
  · obtain ⟨b, off, rfl, _, hc⟩ := h3 h0
    exact conv_str rfl hc
  · have : l = [] := List.eq_nil_of_length_eq_zero (by omega)
    subst this
    cases ad with
    | none => exact run_convert_bytes_nil (P := Tryz.prog) w 44 5 Tryz.underlying44 Tryz.underlying5 0 cap 9 Tryz.underlying9
    | some a =>
      have hr := run_convert_bytes_string (P := Tryz.prog) w 44 9 5 (some a) 0 cap Tryz.underlying44 Tryz.underlying5 Tryz.underlying9
      have hb := run_bytesToString (P := Tryz.prog) w a 0 cap [] (by simp [loadCells, loadCellsFrom])
      exact hr.trans hb

/-- A hold whose lists read as its owner wrote them. -/
def HoldAt (A : Nat → Nat → Prop) (w : World) (p : Nat) : Prop :=
  ∃ (tv bv' fv : Value) (nt : Nat) (l : List UInt8) (fs : List Value) (m : Int) (t : ByteArray),
    (∀ i, i < 6 → A p i) ∧ (∀ i, i < 6 → w.cell? ⟨p, i, none⟩ = #[tv, bv', fv, .int .i64 m, .string t, .string ⟨l.toArray⟩][i]?) ∧ Rd A w tv (List.replicate nt (.string t)) ∧ BAt A w bv' l ∧
      Rd A w fv fs ∧ ∀ f ∈ fs, BAt A w f t.data.toList
theorem HoldAt.keep {A : Nat → Nat → Prop} {w w' : World} {p : Nat} (h : HoldAt A w p) (hk : ∀ b o, A b o → w'.cell? ⟨b, o, none⟩ = w.cell? ⟨b, o, none⟩) : HoldAt A w' p := by
  obtain ⟨tv, bv', fv, nt, l, fs, m, t, hA, hh, h1, h2, h3, h4⟩ := h
  exact ⟨tv, bv', fv, nt, l, fs, m, t, hA, fun i hi => (hk p i (hA i hi)).trans (hh i hi), h1.keep hk, h2.keep hk, h3.keep hk, fun f hf => (h4 f hf).keep hk⟩
theorem HoldAt.mono {A A' : Nat → Nat → Prop} {w : World} {p : Nat} (h : HoldAt A w p) (hA : ∀ b o, A b o → A' b o) : HoldAt A' w p := by
  obtain ⟨tv, bv', fv, nt, l, fs, m, t, hp, hh, h1, h2, h3, h4⟩ := h
  exact ⟨tv, bv', fv, nt, l, fs, m, t, fun i hi => hA _ _ (hp i hi), hh, h1.mono hA, h2.mono hA, h3.mono hA, fun f hf => (h4 f hf).mono hA⟩

theorem blk_cell {w : World} {p i : Nat} {c : Array Value} {e : TypeId} {fr : Nat × Nat} (h : w.heap[p]? = some (.cells c e fr)) : w.cell? ⟨p, i, none⟩ = c[i]? := by simp [World.cell?, h]
theorem blk_free {w : World} {p i : Nat} {c : Array Value} {e : TypeId} (h : w.heap[p]? = some (.cells c e (0, 0))) : w.frozen? ⟨p, i, none⟩ = false := by simp [World.frozen?, h]

set_option maxRecDepth 100000 in
set_option maxHeartbeats 2000000 in
theorem marked_any (A : Nat → Nat → Prop) (p : Nat) (w : World) (h : HoldAt A w p) :
    Calls Tryz.prog 83 #[.pointer (some ⟨p, 0, none⟩)] w fun r w' => r = .returned (.bool true) ∧ ∃ n, w' = w.drewN n := by
  obtain ⟨tv, bv', fv, nt, l, fs, m, t, hA, hh, h1, h2, h3, h4⟩ := h
  have c0 := hh 0 (by omega)
  have c1 := hh 1 (by omega)
  have c2 := hh 2 (by omega)
  have c4 := hh 4 (by omega)
  have c5 := hh 5 (by omega)
  simp at c0 c1 c2 c4 c5
  obtain ⟨ta, tcap, rfl, ht1, ht2, ht3⟩ := h1
  obtain ⟨fa, fcap, rfl, hf1, hf2, hf3⟩ := h3
  have HT := hide ht3
  have HF := hide hf3
  have H4 := hide h4
  have hs := fun n => (h2.keep (w' := w.drewN n) (fun _ _ _ => rfl)).str
  rw [List.length_replicate] at c0 ht1
  have n1 : nt ≤ 9223372036854775807 := by unfold maxLen at ht2; omega
  have n2 : fs.length ≤ 9223372036854775807 := by unfold maxLen at hf2; omega
  clear ht3 hf3 h4 hh h2 hA
  go_enter Tryz.func83, Tryz.ntmps83
  go_wp2
  go_loopw [3] (fun i wr => ∃ k : Nat, k ≤ nt ∧ i = .int .i64 k ∧ ∃ n, wr = w.drewN n) (fun i _ => nt - (intOf i).toNat)
  case atStart => exact ⟨0, Nat.zero_le _, rfl, 0, rfl⟩
  case round =>
    obtain ⟨k, hk, rfl, n, rfl⟩ := hrel
    by_cases hlt : k < nt
    · obtain ⟨g, rfl, hc⟩ := (unhide HT) (by rw [List.length_replicate]; omega)
      have hck := (hc k (by rw [List.length_replicate]; exact hlt)).2
      rw [List.getElem?_replicate, if_pos hlt] at hck
      clear hc
      go_wp2
      go_quiet (fail)
      go_wp2
      go_roundw
      case rel => exact ⟨k + 1, by omega, by go_num, n + nq, by simp⟩
      case measure => simp [intOf]; omega
    · go_wp2
      go_quiet (fail)
      go_wp2
      go_loopw [4] (fun i wr => ∃ k : Nat, k ≤ fs.length ∧ i = .int .i64 k ∧ ∃ n, wr = w.drewN n) (fun i _ => fs.length - (intOf i).toNat)
      case atStart => exact ⟨0, Nat.zero_le _, rfl, n + nq, by simp⟩
      case round =>
        obtain ⟨k2, hk2, rfl, n2', rfl⟩ := hrel
        by_cases hlt2 : k2 < fs.length
        · obtain ⟨g, rfl, hc⟩ := (unhide HF) (by omega)
          have hck := (hc k2 hlt2).2
          have hst := fun n => ((unhide H4) fs[k2] (List.getElem_mem hlt2)).keep (w' := w.drewN n) (fun _ _ _ => rfl)
          have hst2 := fun n => (hst n).str
          rw [List.getElem?_eq_getElem hlt2] at hck
          clear hc hst
          generalize fs[k2] = fk at hck hst2
          go_wp2
          go_quiet (fail)
          go_wp2
          go_roundw
          case rel => exact ⟨k2 + 1, by omega, by go_num, n2' + nq, by simp⟩
          case measure => simp [intOf]; omega
        · go_wp2
          go_ret
          exact ⟨rfl, _, rfl⟩
end Go.Proofs.YtamafdcnbcoegaaGreat
