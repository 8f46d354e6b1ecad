/-
  Part 6 of a proof: F3, K1, K2, K3, K4, K5, K6, L1, L2, L3, L4, L5.
-/
import Derived.Test.YtamafdcnbcoegaaGreatFl5
namespace Go.Proofs.YtamafdcnbcoegaaGreat
open Go.RowKit

set_option maxRecDepth 100000 in
set_option maxHeartbeats 2000000 in
theorem welcomeBody_any (a b c : Nat) (ha : a < 4294967296) (hb : b < 4294967296) (hc : c < 4294967296) (w : World) :
    Calls Tryz.prog 162 #[.agg #[.int .i64 a, .int .i64 b, .int .i64 c]] w fun e w' => e = .returned (.string ⟨(Wire.le4 a ++ Wire.le4 b ++ Wire.le4 c).toArray⟩) ∧ Below w.heap.size w w' := by
  have e0 : ∀ y : World, (Instr.index 98 (.agg #[.int .i64 a, .int .i64 b, .int .i64 c]) (.int .i64 0)).run Tryz.prog y = .ok (.int .i64 a) y := fun y => by kernel_rfl
  have e1 : ∀ y : World, (Instr.index 98 (.agg #[.int .i64 a, .int .i64 b, .int .i64 c]) (.int .i64 1)).run Tryz.prog y = .ok (.int .i64 b) y := fun y => by kernel_rfl
  have e2 : ∀ y : World, (Instr.index 98 (.agg #[.int .i64 a, .int .i64 b, .int .i64 c]) (.int .i64 2)).run Tryz.prog y = .ok (.int .i64 c) y := fun y => by kernel_rfl
  have hl : ∀ n : Int, (Wire.le4 n).length = 4 := fun n => Wire.length_le4 n
  go_enter Tryz.func162, Tryz.ntmps162
  go_upto_region 2 with fail
  refine wp_world (fun x => x.cell? ⟨w.heap.size, 0, none⟩ = some (.int .i64 a) ∧ x.cell? ⟨w.heap.size, 1, none⟩ = some (.int .i64 b) ∧ x.cell? ⟨w.heap.size, 2, none⟩ = some (.int .i64 c) ∧ Below w.heap.size w x ∧ w.heap.size < x.heap.size) ?_ ?_
  · have := heap_alloc_new w (.cells #[.int .i64 a, .int .i64 b, .int .i64 c] 98)
    exact ⟨blk_cell this, blk_cell this, blk_cell this, (Below.refl _ _).alloc (Nat.le_refl _) _, by simp⟩
  rintro x ⟨c0, c1, c2, hB, hz⟩
  go_wp2
  go_loopw [3, 5, 7] (fun v _ i wr => ∃ j : Nat, j ≤ 3 ∧ i = .int .i64 j ∧ Owns (w.heap.size + 1) wr v ((Wire.le4 a ++ Wire.le4 b ++ Wire.le4 c).take (4 * j)) ∧ Below w.heap.size w wr ∧ w.heap.size < wr.heap.size) (fun _ _ i _ => 3 - (intOf i).toNat)
  case atStart => exact ⟨0, by omega, rfl, owns_nil _ _, hB, hz⟩
  case round =>
    obtain ⟨j, hj, rfl, ho, hb', hz'⟩ := hrel
    have HO := hide ho
    have HB := hide hb'
    clear ho hb'
    rcases (show j = 0 ∨ j = 1 ∨ j = 2 ∨ j = 3 by omega) with rfl | rfl | rfl | rfl
    · have HL := hide (show (Wire.le4 a ++ Wire.le4 b ++ Wire.le4 c).take (4 * (0 + 1)) = (Wire.le4 a ++ Wire.le4 b ++ Wire.le4 c).take (4 * 0) ++ Wire.le4 a by simp [Wire.le4])
      go_upto_region 6 with (go_at_call 135; refine (appendNumber_any (w.heap.size + 1) (a : Int) u3 _ wr (by simp only [List.length_take, List.length_append, hl]; omega) (by omega) (by omega) (unhide HO)).mono ?_; rintro r z ⟨v', rfl, hown, hg⟩; have hb2 : Below (w.heap.size + 1) wr z := below_grown_new hg (by omega) (fun g hg => ((unhide HO).lt g hg).1); have HO2 := hide hown; have HB2 := hide ((unhide HB).trans (hb2.mono (by omega))); have hz2 := Nat.lt_of_lt_of_le hz' hb2.size; clear hown hg hb2)
      go_wp2
      exact ⟨⟨0 + 1, by omega, by go_num, by rw [unhide HL]; exact unhide HO2, unhide HB2, hz2⟩, by simp [intOf]⟩
    · have HL := hide (show (Wire.le4 a ++ Wire.le4 b ++ Wire.le4 c).take (4 * (1 + 1)) = (Wire.le4 a ++ Wire.le4 b ++ Wire.le4 c).take (4 * 1) ++ Wire.le4 b by simp [Wire.le4])
      go_upto_region 6 with (go_at_call 135; refine (appendNumber_any (w.heap.size + 1) (b : Int) u3 _ wr (by simp only [List.length_take, List.length_append, hl]; omega) (by omega) (by omega) (unhide HO)).mono ?_; rintro r z ⟨v', rfl, hown, hg⟩; have hb2 : Below (w.heap.size + 1) wr z := below_grown_new hg (by omega) (fun g hg => ((unhide HO).lt g hg).1); have HO2 := hide hown; have HB2 := hide ((unhide HB).trans (hb2.mono (by omega))); have hz2 := Nat.lt_of_lt_of_le hz' hb2.size; clear hown hg hb2)
      go_wp2
      exact ⟨⟨1 + 1, by omega, by go_num, by rw [unhide HL]; exact unhide HO2, unhide HB2, hz2⟩, by simp [intOf]⟩
    · have HL := hide (show (Wire.le4 a ++ Wire.le4 b ++ Wire.le4 c).take (4 * (2 + 1)) = (Wire.le4 a ++ Wire.le4 b ++ Wire.le4 c).take (4 * 2) ++ Wire.le4 c by simp [Wire.le4])
      go_upto_region 6 with (go_at_call 135; refine (appendNumber_any (w.heap.size + 1) (c : Int) u3 _ wr (by simp only [List.length_take, List.length_append, hl]; omega) (by omega) (by omega) (unhide HO)).mono ?_; rintro r z ⟨v', rfl, hown, hg⟩; have hb2 : Below (w.heap.size + 1) wr z := below_grown_new hg (by omega) (fun g hg => ((unhide HO).lt g hg).1); have HO2 := hide hown; have HB2 := hide ((unhide HB).trans (hb2.mono (by omega))); have hz2 := Nat.lt_of_lt_of_le hz' hb2.size; clear hown hg hb2)
      go_wp2
      exact ⟨⟨2 + 1, by omega, by go_num, by rw [unhide HL]; exact unhide HO2, unhide HB2, hz2⟩, by simp [intOf]⟩
    · have hlen : (Wire.le4 a ++ Wire.le4 b ++ Wire.le4 c).length = 12 := by simp [hl]
      rw [List.take_of_length_le (by rw [hlen]; omega)] at HO
      have had := (unhide HO).addr (by rw [hlen]; omega)
      rw [hlen] at had
      obtain ⟨g, cap, rfl, hgB, hgl, hcap1, hcap2, hcell⟩ := had
      have hconv := conv_str (w := wr) (b := g) (off := 0) (cap := cap) hlen hcell
      generalize hfr : Wire.le4 a ++ Wire.le4 b ++ Wire.le4 c = fr at *
      replace hfr := hide hfr
      clear hcell HO
      go_wp2
      go_ret
      exact ⟨(congrArg (fun x : List UInt8 => Ending.returned (Value.string ⟨x.toArray⟩)) (unhide hfr)).symm, unhide HB⟩
end Go.Proofs.YtamafdcnbcoegaaGreat
namespace Go.Proofs.YtamafdcnbcoegaaGreat
open Go.RowKit

/-- The program's sink: its block, its logs, its shelves. -/
structure KsAt (w : World) (p : Nat) (e : Nat) (logs : Nat → List ByteArray) (sh : Nat → List (Nat × Value)) (arr : Array Value) (s : Nat) (lv nv mv : Nat → Value) (rv : Value) : Prop where
  blk : w.heap[p]? = some (.cells arr 176 (0, 0))
  sz : arr.size = 12
  a0 : arr[0]? = some (ptrTo s)
  a1 : arr[1]? = some (.int .i64 e)
  al : ∀ i, i < 3 → arr[2 + i * 3]? = some (lv i)
  an : ∀ i, i < 3 → arr[2 + i * 3 + 1]? = some (nv i)
  am : ∀ i, i < 3 → arr[2 + i * 3 + 2]? = some (mv i)
  ar : arr[11]? = some rv
  lgs : ∀ i, i < 3 → RowO w 9 1 (lv i) (logs i).length (strs (logs i))
  shs : ∀ i, i < 3 → ShelfIs w (nv i) (mv i) (sh i)
  are : ∀ i, i < 3 → AreS (sh i)
  apl : ∀ i j, i < 3 → j < 3 → i ≠ j → ∀ g, (lv i).ownBlock = some g → (lv j).ownBlock ≠ some g
  aps : ∀ i j, i < 3 → j < 3 → i ≠ j → ∀ k, ShU (nv i) (mv i) k → ¬ ShU (nv j) (mv j) k
  cnt : (logs 0).length + (logs 1).length + (logs 2).length ≤ 120
  ep : e ≤ 2147483647
/-- Its blocks (those of its store aside). -/
def KsU (p : Nat) (lv nv mv : Nat → Value) (k : Nat) : Prop := k = p ∨ (∃ i, i < 3 ∧ (lv i).ownBlock = some k) ∨ ∃ i, i < 3 ∧ ShU (nv i) (mv i) k
section
variable {w x : World} {p e s : Nat} {logs : Nat → List ByteArray} {sh : Nat → List (Nat × Value)} {arr : Array Value} {lv nv mv : Nat → Value} {rv : Value}
theorem KsAt.far {E : Nat → Prop} (h : KsAt w p e logs sh arr s lv nv mv rv) (hf : Far E w x) (hE : ∀ k, KsU p lv nv mv k → ¬ E k) : KsAt x p e logs sh arr s lv nv mv rv :=
  ⟨hf.blk h.blk (hE p (.inl rfl)), h.sz, h.a0, h.a1, h.al, h.an, h.am, h.ar, fun i hi => (h.lgs i hi).far hf (fun g hg => hE g (.inr (.inl ⟨i, hi, hg⟩))), fun i hi => (h.shs i hi).far hf (fun k hk => hE k (.inr (.inr ⟨i, hi, hk⟩))), h.are, h.apl, h.aps, h.cnt, h.ep⟩
theorem KsAt.lt (h : KsAt w p e logs sh arr s lv nv mv rv) : ∀ k, KsU p lv nv mv k → k < w.heap.size := by
  rintro k (rfl | ⟨i, hi, hk⟩ | ⟨i, hi, hk⟩)
  · exact lt_of_block h.blk
  · exact (h.lgs i hi).lt k hk
  · exact (h.shs i hi).lt k hk
theorem KsAt.logc (h : KsAt w p e logs sh arr s lv nv mv rv) {i : Nat} (hi : i < 3) : ∃ ad cap, lv i = .slice ad (logs i).length cap ∧ w.cell? ⟨p, 2 + i * 3, none⟩ = some (.slice ad (logs i).length cap) := by
  obtain ⟨ad, cap, e, _⟩ := (h.lgs i hi).shape
  exact ⟨ad, cap, e, by rw [blk_cell h.blk, h.al i hi, e]⟩
theorem KsAt.loglen (h : KsAt w p e logs sh arr s lv nv mv rv) {i : Nat} (hi : i < 3) : (logs i).length ≤ 120 := by
  have := h.cnt
  obtain rfl | rfl | rfl : i = 0 ∨ i = 1 ∨ i = 2 := by omega
  all_goals omega
end

theorem sinkLast_any (w : World) (p o n cap : Nat) (ad : Option Addr) (hc : w.cell? ⟨p, o, none⟩ = some (.slice ad n cap)) :
    Calls Tryz.prog 161 #[.pointer (some ⟨p, o, none⟩)] w fun r w' => r = .returned (.int .i64 n) ∧ w' = w := by
  go_enter Tryz.func161, Tryz.ntmps161
  go_wp2
  go_ret
  exact ⟨rfl, rfl⟩
theorem sinkNext_any (w : World) (p o n cap : Nat) (ad : Option Addr) (hc : w.cell? ⟨p, o, none⟩ = some (.slice ad n cap)) (hn : n ≤ 1000) :
    Calls Tryz.prog 158 #[.pointer (some ⟨p, o, none⟩)] w fun r w' => r = .returned (.int .i64 (n + 1 : Nat)) ∧ w' = w := by
  have HL := hide (sinkLast_any w p o n cap ad hc)
  have hw : IntKind.i64.wrap ((n : Int) + 1) = (n : Int) + 1 := by rw [IntKind.wrap_i64]; omega
  clear hc
  go_enter Tryz.func158, Tryz.ntmps158
  go_wp2_with (go_at_call 161; refine (unhide HL).mono ?_; rintro r y ⟨rfl, rfl⟩)
  go_ret
  exact ⟨by simp, rfl⟩

set_option maxHeartbeats 1000000 in
theorem committed_any {w : World} {p e s : Nat} {logs : Nat → List ByteArray} {sh : Nat → List (Nat × Value)} {arr : Array Value} {lv nv mv : Nat → Value} {rv : Value} (H : KsAt w p e logs sh arr s lv nv mv rv) :
    Calls Tryz.prog 157 #[ptrTo p] w fun r w' => r = .returned (.int .i64 ((logs 0).length + (logs 1).length + (logs 2).length : Nat)) ∧ w' = w := by
  obtain ⟨a0, k0, _, c0⟩ := H.logc (i := 0) (by omega)
  obtain ⟨a1, k1, _, c1⟩ := H.logc (i := 1) (by omega)
  obtain ⟨a2, k2, _, c2⟩ := H.logc (i := 2) (by omega)
  have hcnt := H.cnt
  have L0 := hide (sinkLast_any w p 2 _ k0 a0 c0)
  have L1 := hide (sinkLast_any w p 5 _ k1 a1 c1)
  have L2 := hide (sinkLast_any w p 8 _ k2 a2 c2)
  generalize (logs 0).length = n0 at *
  generalize (logs 1).length = n1 at *
  generalize (logs 2).length = n2 at *
  clear H c0 c1 c2
  unfold ptrTo
  go_enter Tryz.func157, Tryz.ntmps157
  go_wp2
  go_loopw [3, 4, 5] (fun v _ i wr => ∃ j : Nat, j ≤ 3 ∧ i = .int .i64 j ∧ v = .int .i64 (if j = 0 then 0 else if j = 1 then n0 else if j = 2 then n0 + n1 else n0 + n1 + n2 : Nat) ∧ wr = w) (fun _ _ i _ => 3 - (intOf i).toNat)
  case atStart => exact ⟨0, by omega, rfl, rfl, rfl⟩
  case round =>
    obtain ⟨j, hj, rfl, rfl, rfl⟩ := hrel
    rcases (show j = 0 ∨ j = 1 ∨ j = 2 ∨ j = 3 by omega) with rfl | rfl | rfl | rfl
    · have hw : IntKind.i64.wrap (n0 : Int) = (n0 : Int) := by rw [IntKind.wrap_i64]; omega
      go_wp2_with (go_at_call 161; refine (unhide L0).mono ?_; rintro r y ⟨rfl, rfl⟩)
      exact ⟨⟨1, by omega, by go_num, by simp, by first | rfl | trivial⟩, by simp [intOf]⟩
    · have hw : IntKind.i64.wrap ((n0 : Int) + (n1 : Int)) = (n0 : Int) + (n1 : Int) := by rw [IntKind.wrap_i64]; omega
      go_wp2_with (go_at_call 161; refine (unhide L1).mono ?_; rintro r y ⟨rfl, rfl⟩)
      exact ⟨⟨2, by omega, by go_num, by simp, by first | rfl | trivial⟩, by simp [intOf]⟩
    · have hw : IntKind.i64.wrap ((n0 : Int) + (n1 : Int) + (n2 : Int)) = (n0 : Int) + (n1 : Int) + (n2 : Int) := by rw [IntKind.wrap_i64]; omega
      go_wp2_with (go_at_call 161; refine (unhide L2).mono ?_; rintro r y ⟨rfl, rfl⟩)
      exact ⟨⟨3, by omega, by go_num, by simp, by first | rfl | trivial⟩, by simp [intOf]⟩
    · go_wp2
      go_ret
      exact ⟨by simp, rfl⟩
theorem hasRoom_any {w : World} {p e s : Nat} {logs : Nat → List ByteArray} {sh : Nat → List (Nat × Value)} {arr : Array Value} {lv nv mv : Nat → Value} {rv : Value} (H : KsAt w p e logs sh arr s lv nv mv rv) :
    Calls Tryz.prog 204 #[ptrTo p] w fun r w' => r = .returned (.bool (decide ((logs 0).length + (logs 1).length + (logs 2).length < 120))) ∧ w' = w := by
  have HC := hide (committed_any H)
  have hcnt := H.cnt
  generalize (logs 0).length + (logs 1).length + (logs 2).length = n at *
  clear H
  unfold ptrTo at *
  by_cases h : n < 120
  · rw [decide_eq_true h]
    have h' : (n : Int) < 120 := by omega
    go_enter Tryz.func204, Tryz.ntmps204
    go_wp2_with (go_at_call 157; refine (unhide HC).mono ?_; rintro r y ⟨rfl, rfl⟩)
    go_ret
    exact ⟨by simp, rfl⟩
  · rw [decide_eq_false h]
    have h' : ¬ (n : Int) < 120 := by omega
    go_enter Tryz.func204, Tryz.ntmps204
    go_wp2_with (go_at_call 157; refine (unhide HC).mono ?_; rintro r y ⟨rfl, rfl⟩)
    go_ret
    exact ⟨by simp; omega, rfl⟩
end Go.Proofs.YtamafdcnbcoegaaGreat
namespace Go.Proofs.YtamafdcnbcoegaaGreat
open Go.RowKit

/-- Where the parts of a sink lie. -/
structure Sv where
  arr : Array Value
  s : Nat
  dp : Nat
  lv : Nat → Value
  nv : Nat → Value
  mv : Nat → Value
  rv : Value
  dlv : Value
  duv : Value
/-- What a sink does with a frame: a kind, and a method value. -/
def rulesOf (p : Nat) : List Value := [.int .i64 1, .func (.func 109) #[ptrTo p] #[], .int .i64 3, .func (.func 110) #[ptrTo p] #[]]
/-- The program's sink, its store and its disk. -/
structure PkAt (w : World) (p e : Nat) (logs : Nat → List ByteArray) (sh : Nat → List (Nat × Value)) (st : Mod.Stv) (c : Sv) : Prop where
  ks : KsAt w p e logs sh c.arr c.s c.lv c.nv c.mv c.rv
  stt : StAt w c.s c.dp st c.dlv c.duv
  rl : RowO w 179 2 c.rv 2 (rulesOf p)
  len : st.dk.bytes.length = 7808
def PkU (p : Nat) (c : Sv) (k : Nat) : Prop := KsU p c.lv c.nv c.mv k ∨ StU c.s c.dp c.dlv c.duv k ∨ c.rv.ownBlock = some k
section
variable {w x y : World} {p e : Nat} {logs : Nat → List ByteArray} {sh : Nat → List (Nat × Value)} {st : Mod.Stv} {c : Sv}
theorem PkAt.lt (h : PkAt w p e logs sh st c) : ∀ k, PkU p c k → k < w.heap.size := by
  rintro k (hk | hk | hk)
  · exact h.ks.lt k hk
  · exact h.stt.lt k hk
  · exact h.rl.lt k hk
theorem PkAt.far {E : Nat → Prop} (h : PkAt w p e logs sh st c) (hf : Far E w x) (hE : ∀ k, PkU p c k → ¬ E k) : PkAt x p e logs sh st c :=
  ⟨h.ks.far hf (fun k hk => hE k (.inl hk)), h.stt.far hf (fun k hk => hE k (.inr (.inl hk))), h.rl.far hf (fun g hg => hE g (.inr (.inr hg))), h.len⟩
theorem ks_not_cells {arr : Array Value} {s : Nat} {lv nv mv : Nat → Value} {rv : Value} (h : KsAt w p e logs sh arr s lv nv mv rv) {q : Nat} {cs : Array Value} {t : TypeId} {fr : Nat × Nat} (hb : w.heap[q]? = some (.cells cs t fr)) (h1 : t ≠ 176) (h2 : t ≠ 9) (h3 : t ≠ 3) : ¬ KsU p lv nv mv q := by
  rintro (rfl | ⟨i, hi, hk⟩ | ⟨i, hi, hk⟩)
  · have := h.blk
    rw [hb] at this
    injection this with this
    injection this with _ this _
    exact h1 this
  · exact (h.lgs i hi).ne hb (fun e => h2 e.symm) hk
  · rcases hk with hk | hk
    · exact (RowO.of_own (h.shs i hi).nums).ne hb (fun e => h3 e.symm) hk
    · rcases (h.shs i hi).map with ⟨e, _⟩ | ⟨b, e, M⟩
      · rw [e] at hk; cases hk
      · rw [e] at hk; cases hk; exact M.not_cells hb
theorem row_cells {e' : TypeId} {size n : Nat} {v : Value} {xs : List Value} (h : RowO w e' size v n xs) {g : Nat} (hg : v.ownBlock = some g) : ∃ cur, w.heap[g]? = some (.cells cur e' (0, 0)) := by
  obtain ⟨_, h2⟩ := h
  rcases h2 with ⟨rfl, _⟩ | ⟨g', o, cap, cur, rfl, hh, _⟩
  · cases hg
  · cases hg; exact ⟨cur, hh⟩
theorem PkAt.sep (h : PkAt w p e logs sh st c) : ∀ k, KsU p c.lv c.nv c.mv k → ¬ StU c.s c.dp c.dlv c.duv k := by
  rintro k hk (hs | hs | hs | hs)
  · subst hs; exact ks_not_cells h.ks h.stt.blk (by decide) (by decide) (by decide) hk
  · subst hs; exact ks_not_cells h.ks h.stt.dk.blk (by decide) (by decide) (by decide) hk
  · obtain ⟨cur, hc⟩ := row_cells (RowO.of_own h.stt.dk.row) hs
    exact ks_not_cells h.ks hc (by decide) (by decide) (by decide) hk
  · obtain ⟨cur, hc⟩ := row_cells h.stt.dk.un hs
    exact ks_not_cells h.ks hc (by decide) (by decide) (by decide) hk
theorem PkAt.sepr (h : PkAt w p e logs sh st c) : ∀ k, c.rv.ownBlock = some k → ¬ KsU p c.lv c.nv c.mv k ∧ ¬ StU c.s c.dp c.dlv c.duv k := by
  intro k hk
  obtain ⟨cur, hc⟩ := row_cells h.rl hk
  refine ⟨ks_not_cells h.ks hc (by decide) (by decide) (by decide), ?_⟩
  rintro (hs | hs)
  · rw [hs, h.stt.blk] at hc
    injection hc with hc
    injection hc with _ hc _
    exact absurd hc (by decide)
  · exact dk_ne h.stt.dk hc (by decide) (by decide) (by decide) hs
end
/-- Behind a call that may change a sink. -/
def PkStep (w x : World) (p e : Nat) (logs : Nat → List ByteArray) (sh : Nat → List (Nat × Value)) (st : Mod.Stv) (c : Sv) : Prop :=
  ∃ c', PkAt x p e logs sh st c' ∧ Far (PkU p c) w x ∧ (∀ k, PkU p c' k → PkU p c k ∨ w.heap.size ≤ k) ∧ c'.s = c.s ∧ c'.rv = c.rv

theorem ksAt_log {x y : World} {p e s : Nat} {logs : Nat → List ByteArray} {sh : Nat → List (Nat × Value)} {arr : Array Value} {lv nv mv : Nat → Value} {rv : Value} (h : KsAt x p e logs sh arr s lv nv mv rv) (i : Nat) (hi : i < 3) (b : ByteArray) (v' : Value)
    (hF : Far (fun k => (lv i).ownBlock = some k) x y) (hv : RowO y 9 1 v' ((logs i).length + 1) (strs (logs i ++ [b]))) (hl : Loc x (lv i) v') (hc : (logs 0).length + (logs 1).length + (logs 2).length < 120) :
    KsAt (y.setCell ⟨p, 2 + i * 3, none⟩ v') p e (fun j => if j = i then logs i ++ [b] else logs j) sh (arr.setIfInBounds (2 + i * 3) v') s (fun j => if j = i then v' else lv j) nv mv rv := by
  have hpl : ∀ j, j < 3 → (lv j).ownBlock ≠ some p := fun j hj => (h.lgs j hj).ne h.blk (by decide)
  have hby := hF.blk h.blk (hpl i hi)
  have hs := far_set y p (2 + i * 3) v'
  have hF2 : Far (fun k => k = p ∨ (lv i).ownBlock = some k) x (y.setCell ⟨p, 2 + i * 3, none⟩ v') := (hF.mono (fun _ _ h => .inr h)).trans hs (fun _ _ h => .inl h)
  have hpv : v'.ownBlock ≠ some p := hv.ne hby (by decide)
  have hget : ∀ j, j ≠ 2 + i * 3 → (arr.setIfInBounds (2 + i * 3) v')[j]? = arr[j]? := fun j hj => Array.getElem?_setIfInBounds_ne (fun e => hj e.symm)
  refine ⟨blk_set hby, by simpa using h.sz, ?_, ?_, ?_, ?_, ?_, ?_, ?_, ?_, h.are, ?_, h.aps, ?_, h.ep⟩
  · rw [hget _ (by omega)]; exact h.a0
  · rw [hget _ (by omega)]; exact h.a1
  · intro j hj
    by_cases hji : j = i
    · subst hji
      have hlt : 2 + j * 3 < arr.size := by rw [h.sz]; omega
      simp [hlt]
    · rw [if_neg hji, hget _ (by omega)]; exact h.al j hj
  · intro j hj; rw [hget _ (by omega)]; exact h.an j hj
  · intro j hj; rw [hget _ (by omega)]; exact h.am j hj
  · rw [hget _ (by omega)]; exact h.ar
  · intro j hj
    by_cases hji : j = i
    · subst hji
      have := hv.far hs (fun g hg e => hpv (by rw [hg, e]))
      simpa using this
    · simp only [if_neg hji]
      exact (h.lgs j hj).far hF2 (fun g hg e => e.elim (fun e => hpl j hj (by rw [hg, e])) (fun e => h.apl j i hj hi hji g hg e))
  · intro j hj
    refine (h.shs j hj).far hF2 (fun k hk e => ?_)
    have hc : ∃ cs t, x.heap[k]? = some (.cells cs t (0, 0)) ∧ t ≠ 3 := by
      rcases e with rfl | e
      · exact ⟨_, _, h.blk, by decide⟩
      · obtain ⟨cur, hh⟩ := row_cells (h.lgs i hi) e
        exact ⟨_, _, hh, by decide⟩
    obtain ⟨cs, t, hh, ht⟩ := hc
    exact (h.shs j hj).ne hh ht hk
  · intro j j2 hj hj2 hne g hg
    by_cases h1 : j = i
    · subst h1
      rw [if_pos rfl] at hg
      rw [if_neg (fun e => hne e.symm)]
      intro hg2
      rcases hl with hl | hl | ⟨g3, hl, hg3⟩
      · rw [hl] at hg; cases hg
      · rw [hl] at hg; exact h.apl j j2 hj hj2 hne g hg hg2
      · rw [hl] at hg; cases hg
        have := (h.lgs j2 hj2).lt g hg2
        omega
    · rw [if_neg h1] at hg
      by_cases h2 : j2 = i
      · subst h2
        rw [if_pos rfl]
        intro hg2
        rcases hl with hl | hl | ⟨g3, hl, hg3⟩
        · rw [hl] at hg2; cases hg2
        · rw [hl] at hg2; exact h.apl j j2 hj hj2 hne g hg hg2
        · rw [hl] at hg2; cases hg2
          have := (h.lgs j hj).lt g hg
          omega
      · rw [if_neg h2]
        exact h.apl j j2 hj hj2 hne g hg
  · obtain rfl | rfl | rfl : i = 0 ∨ i = 1 ∨ i = 2 := by omega
    all_goals
      simp
      omega
end Go.Proofs.YtamafdcnbcoegaaGreat
namespace Go.Proofs.YtamafdcnbcoegaaGreat
open Go.RowKit

set_option maxRecDepth 100000 in
set_option maxHeartbeats 2000000 in
theorem commit_any {w : World} {p e : Nat} {logs : Nat → List ByteArray} {sh : Nat → List (Nat × Value)} {st : Mod.Stv} {c : Sv} (H : PkAt w p e logs sh st c) (i : Nat) (hi : i < 3) (b : ByteArray) (hb : b.size ≤ 20)
    (hroom : (logs 0).length + (logs 1).length + (logs 2).length < 120) :
    Calls Tryz.prog 222 #[ptrTo p, .int .i64 i, .string b] w fun r w' =>
      r = .returned (.int .i64 (st.putRecord ((logs 0).length + (logs 1).length + (logs 2).length) i ((logs i).length + 1) b.data.toList).1) ∧
      PkStep w w' p e (if (st.putRecord ((logs 0).length + (logs 1).length + (logs 2).length) i ((logs i).length + 1) b.data.toList).1 = 0 then fun j => if j = i then logs i ++ [b] else logs j else logs) sh
        (st.putRecord ((logs 0).length + (logs 1).length + (logs 2).length) i ((logs i).length + 1) b.data.toList).2 c := by
  obtain ⟨n, hn⟩ : ∃ n, n = (logs 0).length + (logs 1).length + (logs 2).length := ⟨_, rfl⟩
  obtain ⟨q, hq⟩ : ∃ q, q = (logs i).length + 1 := ⟨_, rfl⟩
  obtain ⟨ad, cap, hlv, clog⟩ := H.ks.logc hi
  have hll := H.ks.loglen hi
  have hpl := lt_of_block H.ks.blk
  have hNX := fun y (hy : Below w.heap.size w y) => hide (sinkNext_any y p (2 + i * 3) _ cap ad ((hy.cell (p := ⟨p, 2 + i * 3, none⟩) hpl).trans clog) (by omega))
  have hCM := fun y (hy : Below w.heap.size w y) => hide (committed_any (H.ks.far (far_below (E := fun _ => False) hy) (fun _ _ h => h)))
  rw [← hq] at hNX
  rw [← hn] at hCM hroom ⊢
  rw [← hq]
  have hWR := fun y (hy : Below w.heap.size w y) => hide (writeRecord_any y c.s c.dp st c.dlv c.duv (H.stt.far (far_below (E := fun _ => False) hy) (fun _ _ h => h)) n i q b (by rw [H.len]; omega) (by omega) (by omega) hb)
  have c0 : w.cell? ⟨p, 0, none⟩ = some (ptrTo c.s) := by rw [blk_cell H.ks.blk, H.ks.a0]
  obtain ⟨ee, hee⟩ : ∃ ee, ee = (st.putRecord n i q b.data.toList).1 := ⟨_, rfl⟩
  obtain ⟨st2, hst⟩ : ∃ st2, st2 = (st.putRecord n i q b.data.toList).2 := ⟨_, rfl⟩
  rw [← hee, ← hst] at hWR ⊢
  have hlen2 : st2.dk.bytes.length = 7808 := by
    rw [hst]
    unfold Mod.Stv.putRecord Mod.Dk.put
    simp only
    split
    · exact H.len
    · split
      · exact H.len
      · simp only
        rw [Mod.length_setSec (Mod.length_sealB _ _ (by rw [Mod.length_recIn]; simp; omega)) (by rw [H.len]; omega)]
        exact H.len
  have HEQ := hide (And.intro hn (And.intro hq (And.intro hee hst)))
  have hi0 : (0 : Int) ≤ (i : Int) := by omega
  have hi3 : (i : Int) < 3 := by omega
  have HH := hide H
  have HLV := hide hlv
  clear H hlv hn hq hee hst clog
  unfold ptrTo at *
  go_enter Tryz.func222, Tryz.ntmps222
  go_upto_region 2 with fail
  refine wp_region_foot (by kernel_rfl)
    [fun v _ => v = .pointer (some ⟨p, 0, none⟩), fun v _ => v = .pointer (some ⟨p, 0, none⟩), fun v _ => v = .pointer (some ⟨p, 0, none⟩), fun v _ => v = .pointer (some ⟨c.s, 0, none⟩), fun v _ => v = .pointer (some ⟨p, 0, none⟩), fun v _ => v = .int .i64 n, fun v _ => v = .int .i64 i, fun v _ => v = .pointer (some ⟨p, 2 + i * 3, none⟩), fun v _ => v = .int .i64 q, fun v _ => v = .string b,
     fun v _ => v = .agg #[.int .i64 i, .int .i64 q, .string b], fun v y => v = .int .i64 ee ∧ ∃ uv', StAt y c.s c.dp st2 c.dlv uv' ∧ Loc w c.duv uv', fun v _ => v = .int .i64 ee]
    [[(0, none)], [(14, some 0)], [(15, some 1)], [(16, some 2)], [(0, none)], [(18, some 4)], [(1, none)], [(7, none)], [(21, some 7)], [(2, none)], [(20, some 6), (22, some 8), (23, some 9)], [(17, some 3), (19, some 5), (24, some 10)], [(25, some 11)]] [some 14, some 15, some 16, some 17, some 18, some 19, some 20, some 21, some 22, some 23, some 24, some 25, some 8] [false, false, false, false, false, false, false, false, true, false, false, false, false, false, true, true, true, true, true, true, true, true, true, true, true, true, false, false, false, false, false, false, false, false, false, false, false, false, false]
    [(11, StU c.s c.dp c.dlv c.duv)]
    (by kernel_rfl) (by kernel_rfl) (by kernel_rfl) (by kernel_rfl) (by kernel_rfl) ?_ ?_ ?_ ?_
  · repeat' (first | exact stable_eq _ | exact (fun _ _ _ h hb => ⟨h.1, h.2.imp fun _ h => ⟨h.1.far (far_below (E := fun _ => False) hb) (fun _ _ h => h), h.2⟩⟩) | exact trivial | apply And.intro)
  · repeat' (first | exact trivial | exact .inl rfl | exact .inr (.inr (stableF_eq _ _)) | apply And.intro)
  · refine ⟨?_, ?_, ?_, ?_, ?_, ?_, ?_, ?_, ?_, ?_, ?_, ?_, ?_, trivial⟩
    all_goals
      intro a z hb hf
      simp only [PlanFacts, List.getD_cons_zero, List.getD_cons_succ, Array.getD_eq_getD_getElem?] at hf
      try simp at hf
    iterate 3
      · clear hb
        go_simp
        exact ⟨_, rfl, Far.refl _ _, rfl⟩
    · have z0 : z.cell? ⟨p, 0, none⟩ = some (.pointer (some ⟨c.s, 0, none⟩)) := by
        have := hb.blk (unhide HH).ks.blk (footBut_no (by intro q hq; simp at hq; subst hq; exact fun h => (unhide HH).sep p (.inl rfl) h))
        rw [blk_cell this, (unhide HH).ks.a0]
        rfl
      clear hb
      go_simp
      exact ⟨_, rfl, Far.refl _ _, rfl⟩
    · clear hb
      go_simp
      exact ⟨_, rfl, Far.refl _ _, rfl⟩
    · have hbz := foot_below hb (by intro q hq; simp at hq; subst hq; show depB _ 11 5 = true; decide +kernel)
      have HC := hide (unhide (hCM z hbz))
      clear hb hbz
      go_simp
      refine (unhide HC).mono ?_
      rintro r z2 ⟨rfl, rfl⟩
      exact ⟨_, rfl, Far.refl _ _, rfl⟩
    iterate 2
      · clear hb
        go_simp
        exact ⟨_, rfl, Far.refl _ _, rfl⟩
    · have hbz := foot_below hb (by intro q hq; simp at hq; subst hq; show depB _ 11 8 = true; decide +kernel)
      have HC := hide (unhide (hNX z hbz))
      clear hb hbz
      go_simp
      refine (unhide HC).mono ?_
      rintro r z2 ⟨rfl, rfl⟩
      exact ⟨_, rfl, Far.refl _ _, rfl⟩
    iterate 2
      · clear hb
        go_simp
        exact ⟨_, rfl, Far.refl _ _, rfl⟩
    · have hbz : Below w.heap.size w z := hb.below (Nat.le_refl _) (by
        rintro j _ ⟨q, hq, g1, g2, g3⟩
        simp at hq
        subst hq
        exact g1 rfl)
      have HC := hide (unhide (hWR z hbz))
      have hzz := hbz.size
      clear hb hbz
      go_simp
      refine (unhide HC).mono ?_
      rintro r z2 ⟨rfl, uv', k1, k2, k3⟩
      exact ⟨_, rfl, footOf_of (.head _) k3, rfl, uv', k1, loc_less k2 hzz⟩
    · clear hb
      obtain ⟨hf, _⟩ := hf
      go_simp
      exact ⟨_, rfl, Far.refl _ _, rfl⟩
  · intro f z hF hwd
    obtain ⟨_, uv', k1, k2⟩ := hwd.2.2.2.2.2.2.2.2.2.2.2.1
    have h12 := hwd.2.2.2.2.2.2.2.2.2.2.2.2.1
    have hF : Far (StU c.s c.dp c.dlv c.duv) w z := hF.mono (fun k _ h => by
      obtain ⟨q, hq, h⟩ := h
      simp at hq
      subst hq
      exact h)
    have hPK : PkAt z p e logs sh st2 { c with duv := uv' } := ⟨(unhide HH).ks.far hF (fun k hk h => (unhide HH).sep k hk h), k1, (unhide HH).rl.far hF (fun g hg h => ((unhide HH).sepr g hg).2 h), hlen2⟩
    have HPK := hide hPK
    have HF := hide hF
    have HK2 := hide k2
    clear hwd hF k1 k2 hPK
    simp only [mergeT, h12]
    generalize f 14 = x14
    generalize f 15 = x15
    generalize f 16 = x16
    generalize f 17 = x17
    generalize f 18 = x18
    generalize f 19 = x19
    generalize f 20 = x20
    generalize f 21 = x21
    generalize f 22 = x22
    generalize f 23 = x23
    generalize f 24 = x24
    generalize f 25 = x25
    have hmk : ∀ (logs' : Nat → List ByteArray) (z' : World) (arr' : Array Value) (lv' : Nat → Value), KsAt z' p e logs' sh arr' c.s lv' c.nv c.mv c.rv → Far (fun k => k = p ∨ (c.lv i).ownBlock = some k) z z' → (∀ j, j < 3 → Loc z (c.lv j) (lv' j)) → PkStep w z' p e logs' sh st2 c := by
      intro logs' z' arr' lv' hks hf hl
      have hP := unhide HPK
      have hFw := unhide HF
      refine ⟨{ c with arr := arr', lv := lv', duv := uv' }, ⟨hks, hP.stt.far hf (fun k hk hh => ?_), hP.rl.far hf (fun g hg hh => ?_), hP.len⟩, ?_, ?_, rfl, rfl⟩
      · rcases hh with rfl | hh
        · exact hP.sep _ (.inl rfl) hk
        · exact hP.sep k (.inr (.inl ⟨i, hi, hh⟩)) hk
      · rcases hh with rfl | hh
        · exact (hP.sepr _ hg).1 (.inl rfl)
        · exact (hP.sepr _ hg).1 (.inr (.inl ⟨i, hi, hh⟩))
      · exact (hFw.mono (fun _ _ h => .inr (.inl h))).trans hf (fun k _ h => h.elim (fun h => .inl (.inl h)) (fun h => .inl (.inr (.inl ⟨i, hi, h⟩))))
      · have hwz := hFw.size
        have K2 := unhide HK2
        rintro k ((rfl | ⟨j, hj, hk⟩ | hk) | (rfl | rfl | hk | hk) | hk)
        · exact .inl (.inl (.inl rfl))
        · rcases hl j hj with h | h | ⟨g, h, hg⟩
          · rw [h] at hk; cases hk
          · exact .inl (.inl (.inr (.inl ⟨j, hj, by rw [← h]; exact hk⟩)))
          · rw [h] at hk; cases hk; exact .inr (by omega)
        · exact .inl (.inl (.inr (.inr hk)))
        · exact .inl (.inr (.inl (.inl rfl)))
        · exact .inl (.inr (.inl (.inr (.inl rfl))))
        · exact .inl (.inr (.inl (.inr (.inr (.inl hk)))))
        · rcases K2 with h | h | ⟨g, h, hg⟩
          · rw [h] at hk; cases hk
          · exact .inl (.inr (.inl (.inr (.inr (.inr (by rw [← h]; exact hk))))))
          · rw [h] at hk; cases hk; exact .inr hg
        · exact .inl (.inr (.inr hk))
    by_cases h0 : ee = 0
    · subst h0
      have hP := (unhide HPK).ks
      have y0 : z.cell? ⟨p, 2 + i * 3, none⟩ = some (.slice ad (logs i).length cap) := by rw [blk_cell hP.blk, hP.al i hi, unhide HLV]
      have yf : z.frozen? ⟨p, 2 + i * 3, none⟩ = false := blk_free (i := 2 + i * 3) hP.blk
      have hrow := hP.lgs i hi
      have HR := hide hrow
      have HMK := hide hmk
      clear hP hrow hmk
      have hl120 : (logs i).length ≤ 1000 := by omega
      have hrz : RowO z 9 1 (.slice ad (logs i).length cap) (logs i).length (strs (logs i)) := by
        have := unhide HR
        rw [show ({ c with duv := uv' } : Sv).lv i = .slice ad (logs i).length cap from unhide HLV] at this
        exact this
      have hra := fun ob => hide (hrz.keep (w' := z.alloc ob) (fun g hg => hao _ _ (hrz.lt g hg)))
      obtain ⟨m, hm⟩ : ∃ m, m = (logs i).length := ⟨_, rfl⟩
      obtain ⟨ss, hss⟩ : ∃ ss, ss = strs (logs i) := ⟨_, rfl⟩
      rw [← hm] at hl120 y0
      rw [← hm, ← hss] at hra
      have HM := hide (And.intro hm hss)
      have HAPP : ∀ ob v' w1, RowO w1 9 1 v' (m + 1) (ss ++ [.string b]) → App (z.alloc ob) w1 (.slice ad m cap) v' → ∃ ad2 cap2, v' = .slice ad2 (m + 1) cap2 ∧ w1.cell? ⟨p, 2 + i * 3, none⟩ = some (.slice ad m cap) ∧ w1.frozen? ⟨p, 2 + i * 3, none⟩ = false ∧
          Hid (RowO w1 9 1 v' (m + 1) (ss ++ [.string b]) ∧ Loc z (.slice ad m cap) v' ∧ Far (fun k => (Value.slice ad m cap).ownBlock = some k) z w1) := by
        intro ob v' w1 h1 h2
        obtain ⟨ad2, cap2, hv2, _⟩ := h1.shape
        have hFz : Far (fun k => (Value.slice ad m cap).ownBlock = some k) z w1 := (far_below (E := fun k => (Value.slice ad m cap).ownBlock = some k) ((Below.refl _ _).alloc (Nat.le_refl _) ob)).trans (far_grown h2.grown) (fun _ _ h => h)
        have hne : (Value.slice ad m cap).ownBlock ≠ some p := by
          rw [hm]
          exact hrz.ne (unhide HPK).ks.blk (by decide)
        have hpb := hFz.blk (unhide HPK).ks.blk hne
        refine ⟨ad2, cap2, hv2, ?_, blk_free (i := 2 + i * 3) hpb, hide ⟨h1, loc_app (w := z) (by simp) h2, hFz⟩⟩
        rw [blk_cell hpb, (unhide HPK).ks.al i hi, hm]
        exact congrArg some (unhide HLV)
      clear hrz hm hss
      go_upto_region 6 with (at_builtin; refine wpList_app_o rfl (.tmp 33) (.tmp 35) 45 rfl 9 _ 1 16 Tryz.underlying45 infoStr rfl _ m ss (unhide (hra _)) rfl ⟨z.heap.size, 0, none⟩ 1 1 [.string b] rfl rfl cells_new (by intro u hu; simp at hu; subst hu; rfl) (by omega) (by omega) (by omega) ?_; intro v' w1 h1 h2; obtain ⟨ad2, cap2, rfl, z1, zf, HA⟩ := HAPP _ _ _ h1 h2; clear h1 h2; go_simp)
      go_wp2
      go_ret
      obtain ⟨A1, A2, A3⟩ := unhide HA
      obtain ⟨q1, q2⟩ := unhide HM
      have hlvi : c.lv i = .slice ad m cap := by rw [q1]; exact unhide HLV
      refine ⟨rfl, (unhide HMK) _ _ _ _ (ksAt_log (unhide HPK).ks i hi b _ ?_ ?_ ?_ ?_) ?_ ?_⟩
      · show Far (fun k => (c.lv i).ownBlock = some k) z w1
        rw [hlvi]; exact A3
      · rw [← q1, show strs (logs i ++ [b]) = ss ++ [.string b] by rw [q2]; simp [strs]]
        exact A1
      · show Loc z (c.lv i) _
        rw [hlvi]; exact A2
      · rw [← (unhide HEQ).1]; exact hroom
      · rw [hlvi]
        exact (A3.mono (fun _ _ h => .inr h)).trans (far_set w1 p (2 + i * 3) _) (fun _ _ h => .inl h)
      · intro j hj
        show Loc z (c.lv j) (if j = i then _ else c.lv j)
        by_cases hji : j = i
        · rw [if_pos hji, hji, hlvi]; exact A2
        · rw [if_neg hji]; exact .inr (.inl rfl)
    · have hne : (ee == 0) = false := by simpa using h0
      have HMK := hide (hmk logs z c.arr c.lv (unhide HPK).ks (Far.refl _ _) (fun _ _ => .inr (.inl rfl)))
      clear hmk
      go_wp2
      go_ret
      exact ⟨rfl, unhide HMK⟩
end Go.Proofs.YtamafdcnbcoegaaGreat
namespace Go.Proofs.YtamafdcnbcoegaaGreat
open Go.RowKit

/-- The thing of a number is taken away. -/
def delL : List (Nat × Value) → Nat → List (Nat × Value)
  | [], _ => []
  | x :: r, n => if x.1 = n then r else x :: delL r n
theorem delL_sub : ∀ (l : List (Nat × Value)) (n : Nat), (delL l n).Sublist l
  | [], _ => List.Sublist.refl _
  | x :: r, n => by
    unfold delL
    split
    · exact List.sublist_cons_self _ _
    · exact (delL_sub r n).cons_cons _
theorem delL_look {l : List (Nat × Value)} (hs : (l.map (·.1)).Pairwise (· < ·)) (n : Nat) : look (delL l n) = delF (look l) n := by
  induction l with
  | nil => funext k; simp [delL, look, delF]
  | cons x r ih =>
    rw [List.map_cons, List.pairwise_cons] at hs
    unfold delL
    split
    · rename_i h
      subst h
      exact (del_look (fun y hy => hs.1 y.1 (List.mem_map.2 ⟨y, hy, rfl⟩))).symm
    · rename_i h
      funext k
      have := congrFun (ih hs.2) k
      unfold delF at this ⊢
      rw [look_cons, look_cons, this]
      by_cases h1 : k = (x.1 : Int)
      · rw [if_pos h1, if_pos h1, if_neg (by omega)]
      · rw [if_neg h1, if_neg h1]
theorem delL_keys {l : List (Nat × Value)} (hs : (l.map (·.1)).Pairwise (· < ·)) {n : Nat} (hc : (l.map (·.1)).contains n = true) :
    (delL l n).map (·.1) = (l.map (·.1)).take ((l.map (·.1)).countP (· < n)) ++ (l.map (·.1)).drop ((l.map (·.1)).countP (· < n) + 1) := by
  induction l with
  | nil => simp at hc
  | cons x r ih =>
    have hs0 := hs
    rw [List.map_cons, List.pairwise_cons] at hs
    unfold delL
    split
    · rename_i h
      subst h
      have hz : (r.map (·.1)).countP (· < x.1) = 0 := countP_zero_of (fun y hy => by have := hs.1 y hy; omega)
      rw [List.map_cons, List.countP_cons, hz]
      simp
    · rename_i h
      have hc2 : (r.map (·.1)).contains n = true := by
        rw [List.map_cons, List.contains_cons] at hc
        have hne : (n == x.1) = false := by simp; omega
        rw [hne, Bool.false_or] at hc
        exact hc
      have hlt : x.1 < n := by
        have : n ∈ r.map (·.1) := by simpa using hc2
        exact hs.1 n this
      rw [List.map_cons, ih hs.2 hc2, List.map_cons, List.countP_cons]
      simp [hlt]

/-- Behind Take: its row may be another slice of the same block. -/
theorem takeS_none {w : World} {p o : Nat} {t : TypeId} {arr : Array Value} {nv mv : Value} {l : List (Nat × Value)} (S : ShAt w p o t arr nv mv l) (n : Nat) (hn : look l n = none) :
    Calls Tryz.prog 223 #[.pointer (some ⟨p, o, none⟩), .int .i64 n] w fun e w' => e = .returned (.tuple #[zeroS, .bool false]) ∧ Below w.heap.size w w' := by
  have hpl := lt_of_block S.blk
  have c1 : ∀ ob, (w.alloc ob).cell? ⟨p, o + 1, none⟩ = some mv := fun ob => (World.cell?_alloc_lt w _ ⟨p, o + 1, none⟩ hpl).trans ((blk_cell S.blk).trans S.c1)
  have hrun := fun ob => (run_lookup_i (P := Tryz.prog) (w := w.alloc ob) (t := 168) Tryz.underlying168 Tryz.underlying3 (zero_S _) (S.sh.map.keep (fun g hg => hao _ _ (S.sh.lt g (.inr hg)))) n).1
  rw [hn] at hrun
  simp only [Option.getD_none, Option.isSome_none, zeroS] at hrun ⊢
  clear S hn
  go_enter Tryz.func223, Tryz.ntmps223
  go_wp2
  refine bodyPost_ret (v := .tuple #[.agg #[.string ⟨#[]⟩], .bool false]) (by simp [results, Tryz.results223, go_sem]) rfl ⟨rfl, ?_⟩
  exact ((Below.refl _ _).alloc (Nat.le_refl _) _).alloc (by simp) _

set_option maxRecDepth 100000 in
set_option maxHeartbeats 1000000 in
theorem takeS_some {w : World} {p o : Nat} {t : TypeId} {arr : Array Value} {nv mv : Value} {l : List (Nat × Value)} (S : ShAt w p o t arr nv mv l) (n : Nat) (b : ByteArray) (hn : look l n = some (recS b)) :
    Calls Tryz.prog 223 #[.pointer (some ⟨p, o, none⟩), .int .i64 n] w fun e w' => e = .returned (.tuple #[recS b, .bool true]) ∧ ShTook w w' p o t arr nv mv (delL l n) := by
  have h0s : o < arr.size := (Array.getElem?_eq_some_iff.1 S.c0).1
  have h1s : o + 1 < arr.size := (Array.getElem?_eq_some_iff.1 S.c1).1
  have hpl := lt_of_block S.blk
  have hc : (l.map (·.1)).contains n = true := by
    obtain ⟨x, hx, h1, _⟩ := look_mem hn
    have : x.1 = n := by omega
    simp only [List.contains_eq_mem, decide_eq_true_eq]
    exact List.mem_map.2 ⟨x, hx, this⟩
  have hlen0 : l.length ≤ 1000 := S.sh.len
  have hcnt : (l.map (·.1)).countP (· < n) + 1 ≤ (l.map (·.1)).length := by
    have h1 : (l.map (·.1)).countP (· < n) ≠ (l.map (·.1)).length := by
      intro e
      have h2 := List.countP_eq_length.1 e n (by simpa using hc)
      simp at h2
    have h2 : (l.map (·.1)).countP (· < n) ≤ (l.map (·.1)).length := List.countP_le_length
    omega
  obtain ⟨mb, rfl, hM⟩ : ∃ mb, mv = .map (some mb) ∧ MapAt w mb (look l) := by
    rcases S.sh.map with ⟨_, h⟩ | ⟨mb, h1, h2⟩
    · rw [h] at hn; cases hn
    · exact ⟨mb, h1, h2⟩
  have hmb := hM.lt
  have hmp : p ≠ mb := fun e => hM.not_cells (by rw [← e]; exact S.blk)
  have hnm := S.sh.nums.notMap hM
  have hnp : nv.ownBlock ≠ some p := fun e => S.sh.ne S.blk S.ty (.inl e)
  obtain ⟨ad, cap, hnv, _⟩ := (RowO.of_own S.sh.nums).shape
  rw [List.length_map] at hnv
  have c1 : ∀ ob, (w.alloc ob).cell? ⟨p, o + 1, none⟩ = some (.map (some mb)) := fun ob => (World.cell?_alloc_lt w _ ⟨p, o + 1, none⟩ hpl).trans ((blk_cell S.blk).trans S.c1)
  have hrun := fun ob => (run_lookup_i (P := Tryz.prog) (w := w.alloc ob) (t := 168) Tryz.underlying168 Tryz.underlying3 (zero_S _) (S.sh.map.keep (fun g hg => hao _ _ (S.sh.lt g (.inr hg)))) n).1
  rw [hn] at hrun
  simp only [Option.getD_some, Option.isSome_some, recS] at hrun ⊢
  have HS := hide S
  have HN := hide hn
  have HC := hide hc
  have HNV := hide hnv
  clear S hn hM hc hnv
  go_enter Tryz.func223, Tryz.ntmps223
  go_upto_region 3 with fail
  refine wp_world (fun x => x.heap[w.heap.size]? = some (.cells #[.string ⟨#[]⟩] 235 (0, 0)) ∧ x.heap[w.heap.size + 1]? = some (.cells #[.string b] 235 (0, 0)) ∧ Below w.heap.size w x) (alloc2 _ _ _) ?_
  rintro x ⟨h0, h1, hB⟩
  have S1 : ShAt x p o t arr nv (.map (some mb)) l := by
    have S := unhide HS
    exact ⟨(hB.block _ hpl).trans S.blk, S.c0, S.c1, S.sh.far (far_below (E := fun _ => False) hB) (fun _ _ h => h), S.ty⟩
  have d0 : x.cell? ⟨p, o, none⟩ = some nv := (blk_cell S1.blk).trans S1.c0
  have hx := hB.size
  have hzx := lt_of_block h1
  obtain ⟨k, hk⟩ : ∃ k, k = (l.map (·.1)).countP (· < n) := ⟨_, rfl⟩
  have hsearch := hide (search_any S1.sh.nums S1.sh.sorted (by rw [List.length_map]; omega) n)
  rw [← hk, unhide HC] at hsearch
  rw [← hk] at hcnt
  have hdel := fun q => hide (delete_any (w := x.drewN q) S1.sh.nums k (k + 1) (by omega) hcnt)
  have hkeys := delL_keys S1.sh.sorted (unhide HC)
  rw [← hk] at hkeys
  rw [← hkeys] at hdel
  have HK := hide (And.intro hk hkeys)
  have H0 := hide h0
  have H1 := hide h1
  have HB := hide hB
  have HS1 := hide S1
  have hki : IntKind.i64.wrap ((k : Int) + 1) = (k : Int) + 1 := by rw [IntKind.wrap_i64]; rw [List.length_map] at hcnt; omega
  have hkc : ((k : Nat) : Int) + 1 = ((k + 1 : Nat) : Int) := by omega
  obtain ⟨k1, hk1⟩ : ∃ k1, k1 = k + 1 := ⟨_, rfl⟩
  rw [← hk1] at hdel hkc
  rw [hkc] at hki
  clear h0 h1 hB S1 c1 hrun hk hkeys hk1 hcnt
  go_upto_region 4 with (go_at_call 132; refine (unhide hsearch).mono ?_; rintro e y ⟨rfl, q, rfl⟩)
  have d0' : (x.drewN q).cell? ⟨p, o, none⟩ = some nv := d0
  have HD := hide (hdel q)
  have HDZ : ∀ z nv', NumsAt z nv' ((delL l n).map (·.1)) → Far (fun g => nv.ownBlock = some g) (x.drewN q) z → nv'.ownBlock = nv.ownBlock → ∃ ad2 n2 cap2, nv' = .slice ad2 n2 cap2 ∧ z.cell? ⟨p, o, none⟩ = some nv ∧ z.frozen? ⟨p, o, none⟩ = false ∧ z.cell? ⟨p, o + 1, none⟩ = some (.map (some mb)) ∧
      Hid (NumsAt z nv' ((delL l n).map (·.1)) ∧ Far (fun g => nv.ownBlock = some g) x z ∧ nv'.ownBlock = nv.ownBlock ∧ z.heap[p]? = some (.cells arr t (0, 0))) := by
    intro z nv' N' hF' hown
    obtain ⟨ad2, cap2, h2, _⟩ := (RowO.of_own N').shape
    have hFx : Far (fun g => nv.ownBlock = some g) x z := (far_below (E := fun g => nv.ownBlock = some g) (below_drewN (Below.refl _ _) q)).trans hF' (fun _ _ h => h)
    have hpb := hFx.blk (unhide HS1).blk hnp
    exact ⟨ad2, _, cap2, h2, (blk_cell hpb).trans (unhide HS1).c0, by simp [World.frozen?, hpb], (blk_cell hpb).trans (unhide HS1).c1, hide ⟨N', hFx, hown, hpb⟩⟩
  clear d0 hdel hsearch
  go_upto_region 5 with (go_at_call 221; refine (unhide (unhide HD)).mono ?_; rintro e z ⟨nv', rfl, N', hF', hown⟩; obtain ⟨ad2, n2, cap2, rfl, z0, zf, z1, HZ⟩ := HDZ _ _ N' hF' hown; clear N' hF' hown)
  obtain ⟨vv, hvv⟩ : ∃ vv, vv = Value.slice ad2 n2 cap2 := ⟨_, rfl⟩
  rw [← hvv] at HZ ⊢
  refine wp_world (fun Y => Y.heap[p]? = some (.cells (arr.setIfInBounds o vv) t (0, 0)) ∧ NumsAt Y vv ((delL l n).map (·.1)) ∧ MapAt Y mb (look l) ∧ Far (fun g => g = p ∨ nv.ownBlock = some g) x Y) ?_ ?_
  · obtain ⟨N', hF', hown, hpb⟩ := unhide HZ
    have hfs := far_set z p o vv
    have hFY : Far (fun g => g = p ∨ nv.ownBlock = some g) x (z.setCell ⟨p, o, none⟩ vv) := (hF'.mono (fun _ _ h => .inr h)).trans hfs (fun _ _ h => .inl h)
    refine ⟨blk_set hpb, N'.keep (fun g hg => hfs.rest g (World.ownsRow.lt N' g hg).2 (fun e => hnp (by rw [← hown, hg, e]))), ?_, hFY⟩
    have hM : MapAt x mb (look l) := by
      rcases (unhide HS1).sh.map with ⟨h, _⟩ | ⟨mb', h1, h2⟩
      · cases h
      · cases h1; exact h2
    exact hM.keep (hFY.rest mb hM.lt (fun e => e.elim (fun e => hmp e.symm) (fun e => hnm e)))
  have hvown : vv.ownBlock = nv.ownBlock := (unhide HZ).2.2.1
  clear z0 zf z1 HZ HDZ HD hvv
  rintro Y ⟨hYp, hYn, hYm, hYF⟩
  have e1 : Y.cell? ⟨p, o + 1, none⟩ = some (.map (some mb)) := by
    rw [blk_cell hYp, Array.getElem?_setIfInBounds_ne (by omega)]
    exact (unhide HS).c1
  obtain ⟨ob, hU, hM1⟩ := run_delete_i (P := Tryz.prog) (w := Y) (t := 168) (K' := 3) Tryz.underlying168 Tryz.underlying3 hYm n
  have hU2 := fun ty => hU ty Y rfl
  have hyx := hYF.size
  have hmY := hYm.lt
  have HYP := hide hYp
  have HYN := hide hYn
  have HYM := hide hM1
  have HYM0 := hide hYm
  have HYF := hide hYF
  clear hYp hYn hYm hYF hU hM1
  go_upto_region 6 with fail
  have hnvl : ∀ g, nv.ownBlock = some g → g < w.heap.size := fun g hg => (unhide HS).sh.lt g (.inl hg)
  refine wp_world (fun Z => Z.heap[p]? = some (.cells (arr.setIfInBounds o vv) t (0, 0)) ∧ NumsAt Z vv ((delL l n).map (·.1)) ∧ MapAt Z mb (delF (look l) n) ∧ Far (fun g => (g = p ∨ nv.ownBlock = some g) ∨ g = mb) x Z ∧ Z.heap[w.heap.size]? = some (.cells #[.string ⟨#[]⟩] 235 (0, 0)) ∧ Z.heap[w.heap.size + 1]? = some (.cells #[.string b] 235 (0, 0))) ?_ ?_
  · have hfb := far_block (w := Y) mb ob
    have hF := (unhide HYF).mono (E' := fun g => (g = p ∨ nv.ownBlock = some g) ∨ g = mb) (fun _ _ h => .inl h) |>.trans hfb (fun _ _ h => .inr h)
    have hfr : ∀ g, w.heap.size ≤ g → ¬ ((g = p ∨ nv.ownBlock = some g) ∨ g = mb) := by
      rintro g hg ((h | h) | h)
      · omega
      · have := hnvl g h; omega
      · omega
    refine ⟨hfb.blk (unhide HYP) hmp, (unhide HYN).keep (fun g hg => hfb.rest g (World.ownsRow.lt (unhide HYN) g hg).2 ?_), unhide HYM, hF, hF.blk (unhide H0) (hfr _ (Nat.le_refl _)), hF.blk (unhide H1) (hfr _ (by omega))⟩
    rintro rfl
    obtain ⟨cur, hc⟩ : ∃ cur, Y.heap[g]? = some (.cells cur 3 (0, 0)) := by
      rcases (unhide HYN).cases with ⟨e, _⟩ | ⟨g', cap', cur', e, hh, _⟩
      · rw [e] at hg; cases hg
      · rw [e] at hg; cases hg; exact ⟨_, hh⟩
    exact (unhide HYM0).not_cells hc
  rintro Z ⟨hZp, hZn, hZm, hZF, hZ0, hZ1⟩
  have f0 : Z.cell? ⟨w.heap.size, 0, none⟩ = some (.string ⟨#[]⟩) := blk_cell (i := 0) hZ0
  have f1 : Z.cell? ⟨w.heap.size + 1, 0, none⟩ = some (.string b) := blk_cell (i := 0) hZ1
  have ff : Z.frozen? ⟨w.heap.size, 0, none⟩ = false := blk_free (i := 0) hZ0
  have HZP := hide hZp
  have HZN := hide hZn
  have HZM := hide hZm
  have HZF := hide hZF
  clear hZp hZn hZm hZF hZ0 hZ1 HYP HYN HYM HYF hU2 e1
  go_wp2
  refine bodyPost_ret (v := .tuple #[.agg #[.string b], .bool true]) (by simp [results, Tryz.results223, go_sem, f0]) rfl ⟨rfl, ?_⟩
  have hfs := far_set Z w.heap.size 0 (.string b)
  have S := unhide HS
  have hnp2 : p ≠ w.heap.size := by omega
  refine ⟨⟨vv, ⟨hfs.blk (unhide HZP) hnp2, by simp [h0s], by rw [Array.getElem?_setIfInBounds_ne (by omega)]; exact S.c1, ⟨(unhide HZN).keep (fun g hg => hfs.rest g (World.ownsRow.lt (unhide HZN) g hg).2 (fun e => ?_)), .inr ⟨mb, rfl, ?_⟩, ?_, ?_⟩, S.ty⟩, hvown⟩, ?_⟩
  · rw [hvown] at hg
    have := hnvl g hg
    omega
  · rw [delL_look S.sh.sorted n]
    exact (unhide HZM).keep (hfs.rest mb (unhide HZM).lt (by omega))
  · exact S.sh.sorted.sublist ((delL_sub l n).map _)
  · exact Nat.le_trans (delL_sub l n).length_le S.sh.len
  · have hF1 : Far (fun k => k = p ∨ ShU nv (.map (some mb)) k) w Z := (far_below (E := fun k => k = p ∨ ShU nv (.map (some mb)) k) (unhide HB)).trans (unhide HZF) (fun k _ h => by
      rcases h with (h | h) | h
      · exact .inl h
      · exact .inr (.inl h)
      · exact .inr (.inr (by rw [h]; rfl)))
    exact hF1.trans hfs (fun k hk h => by omega)
end Go.Proofs.YtamafdcnbcoegaaGreat
namespace Go.Proofs.YtamafdcnbcoegaaGreat

/-- On the shelves lies what is held. -/
def OnSh (held : List (Nat × Nat × ByteArray)) (sh : Nat → List (Nat × Value)) : Prop := ∀ s, s < 3 → ∀ (q : Nat) (b : ByteArray), look (sh s) (q : Int) = some (recS b) ↔ (s, q, b) ∈ held
/-- What is so of the document's sink beside SkGood: bodies are short; while there is room, none is held that is next. -/
structure SkMore (a : Mod.Sk) : Prop where
  bod : ∀ h ∈ a.held, h.2.2.size ≤ 20
  nxt : a.count < 120 → ∀ s, s < 3 → ∀ b, (s, (a.logs s).length + 1, b) ∉ a.held
theorem ixFrom_mem {st q : Nat} : ∀ {l : List (Nat × Nat × ByteArray)} {i k : Nat}, Mod.ixFrom st q i l = some k → ∃ (h : k - i < l.length), l[k - i].1 = st ∧ l[k - i].2.1 = q ∧ i ≤ k
  | [], _, _, h => by simp [Mod.ixFrom] at h
  | x :: l, i, k, h => by
    rw [Mod.ixFrom] at h
    split at h
    · rename_i hx
      injection h with h
      subst h
      simpa using hx
    · obtain ⟨h1, h2, h3, h4⟩ := ixFrom_mem h
      have e : k - i = (k - (i + 1)) + 1 := by omega
      simp only [e]
      exact ⟨by simp; omega, by simpa using h2, by simpa using h3, by omega⟩
theorem ixFrom_none_mem {st q : Nat} : ∀ {l : List (Nat × Nat × ByteArray)} {i : Nat}, Mod.ixFrom st q i l = none → ∀ b, (st, q, b) ∉ l
  | [], _, _ => by simp
  | x :: l, i, h => by
    rw [Mod.ixFrom] at h
    split at h
    · cases h
    · rename_i hx
      intro b hb
      cases hb with
      | head => exact hx ⟨rfl, rfl⟩
      | tail _ hb => exact ixFrom_none_mem h b hb
theorem ix_some {a : Mod.Sk} {st q i : Nat} (h : a.ix st q = some i) : (st, q, (a.held.getD i (0, 0, ⟨#[]⟩)).2.2) ∈ a.held := by
  obtain ⟨h1, h2, h3, h4⟩ := ixFrom_mem h
  simp only [Nat.sub_zero] at h1 h2 h3
  rw [List.getD_eq_getElem?_getD, List.getElem?_eq_getElem h1, Option.getD_some]
  have := List.getElem_mem h1
  rw [show (st, q, a.held[i].2.2) = a.held[i] by rw [← h2, ← h3]]
  exact this
theorem ix_none {a : Mod.Sk} {st q : Nat} (h : a.ix st q = none) : ∀ b, (st, q, b) ∉ a.held := ixFrom_none_mem h
theorem once_body {a : Mod.Sk} (G : SkGood a) {s q : Nat} {b b' : ByteArray} (h : (s, q, b) ∈ a.held) (h' : (s, q, b') ∈ a.held) : b = b' := by
  have hn := G.once
  have : ∀ (l : List (Nat × Nat × ByteArray)), (l.map fun h => (h.1, h.2.1)).Nodup → (s, q, b) ∈ l → (s, q, b') ∈ l → b = b' := by
    intro l
    induction l with
    | nil => intro _ h; cases h
    | cons x r ih =>
      intro hn h h'
      rw [List.map_cons, List.nodup_cons] at hn
      cases h with
      | head =>
        cases h' with
        | head => rfl
        | tail _ h' => exact absurd (List.mem_map.2 ⟨_, h', rfl⟩) hn.1
      | tail _ h =>
        cases h' with
        | head => exact absurd (List.mem_map.2 ⟨_, h, rfl⟩) hn.1
        | tail _ h' => exact ih hn.2 h h'
  exact this a.held hn h h'
/-- In the midst of committing: out is committed so far; fuel f is left to the document's loop. -/
structure InCm (a : Mod.Sk) (s q : Nat) (b : ByteArray) (out : List ByteArray) (sh : Nat → List (Nat × Value)) : Prop where
  on : ∀ t, t < 3 → ∀ (n : Nat) (c : ByteArray), look (sh t) (n : Int) = some (recS c) ↔ ((t, n, c) ∈ a.held ∧ (t = s → (a.logs s).length + out.length < n))
  are : ∀ t, t < 3 → AreS (sh t)
  pos : 0 < out.length
  len : a.count + out.length ≤ 120
  run : a.commitFrom s q a.count (121 - out.length) out = a.commitFrom s q a.count 120 [b]
  bod : ∀ c ∈ out, c.size ≤ 20
theorem inCm_start {a : Mod.Sk} {sh : Nat → List (Nat × Value)} (G : SkGood a) (M : SkMore a) (O : OnSh a.held sh) (A : ∀ t, t < 3 → AreS (sh t)) (s : Nat) (b : ByteArray) (hs : s < 3) (hb : b.size ≤ 20) (hroom : a.count < 120) : InCm a s ((a.logs s).length + 1) b [b] sh := by
  refine ⟨fun t ht n c => ?_, A, by simp, by simp; omega, by simp, by simpa using hb⟩
  rw [O t ht n c]
  constructor
  · intro h
    refine ⟨h, fun e => ?_⟩
    subst e
    have h1 := (G.held _ h).2.1
    have h2 := M.nxt hroom t ht c
    simp only [List.length_singleton] at h1 ⊢
    rcases Nat.lt_or_ge ((a.logs t).length + 1) n with h3 | h3
    · exact h3
    · have : n = (a.logs t).length + 1 := by omega
      subst this
      exact absurd h h2
  · exact fun h => h.1
/-- The next one is held: it is committed too. -/
theorem inCm_next {a : Mod.Sk} {s : Nat} {b : ByteArray} {out : List ByteArray} {sh : Nat → List (Nat × Value)} (G : SkGood a) (M : SkMore a) (hs : s < 3) (I : InCm a s ((a.logs s).length + 1) b out sh) (hroom : a.count + out.length < 120) {c : ByteArray} (hsort : ((sh s).map (·.1)).Pairwise (· < ·))
    (hl : look (sh s) (((a.logs s).length + out.length + 1 : Nat) : Int) = some (recS c)) :
    InCm a s ((a.logs s).length + 1) b (out ++ [c]) (fun t => if t = s then delL (sh s) ((a.logs s).length + out.length + 1) else sh t) := by
  have hm := ((I.on s hs _ c).1 hl).1
  refine ⟨fun t ht n d => ?_, fun t ht => ?_, by simp, by simp; omega, ?_, ?_⟩
  · by_cases e : t = s
    · subst e
      rw [if_pos rfl, delL_look hsort]
      unfold delF
      by_cases h1 : (n : Int) = (((a.logs t).length + out.length + 1 : Nat) : Int)
      · rw [if_pos h1]
        simp
        intro _
        omega
      · rw [if_neg h1, I.on t ht n d]
        simp
        intro _
        omega
    · rw [if_neg e, I.on t ht n d]
      simp [e]
  · show AreS (if t = s then _ else sh t)
    by_cases e : t = s
    · rw [if_pos e]
      exact fun x hx => I.are s hs x ((delL_sub _ _).subset hx)
    · rw [if_neg e]
      exact I.are t ht
  · rw [← I.run]
    have hlen : (out ++ [c]).length = out.length + 1 := by simp
    rw [hlen]
    have hf : 121 - out.length = (121 - (out.length + 1)) + 1 := by have := I.len; omega
    rw [hf]
    have hq : (a.logs s).length + 1 + out.length = (a.logs s).length + out.length + 1 := by omega
    cases hi : a.ix s ((a.logs s).length + 1 + out.length) with
    | none =>
      have := ix_none hi c
      rw [hq] at this
      exact absurd hm this
    | some i =>
      rw [Mod.Sk.commitFrom_some hroom hi]
      have h2 := ix_some hi
      rw [hq] at h2
      rw [once_body G hm h2]
  · intro d hd
    rw [List.mem_append, List.mem_singleton] at hd
    rcases hd with hd | rfl
    · exact I.bod d hd
    · exact M.bod _ hm
/-- There is no room, or the next one is not held: that is all. -/
theorem inCm_stop {a : Mod.Sk} {s : Nat} {b : ByteArray} {out : List ByteArray} {sh : Nat → List (Nat × Value)} (hs : s < 3) (I : InCm a s ((a.logs s).length + 1) b out sh)
    (h : ¬ a.count + out.length < 120 ∨ look (sh s) (((a.logs s).length + out.length + 1 : Nat) : Int) = none) : out = a.commitFrom s ((a.logs s).length + 1) a.count 120 [b] := by
  rw [← I.run]
  rcases h with h | h
  · exact (Mod.Sk.commitFrom_stop h).symm
  · by_cases hr : a.count + out.length < 120
    · refine (Mod.Sk.commitFrom_none hr ?_).symm
      cases hi : a.ix s ((a.logs s).length + 1 + out.length) with
      | none => rfl
      | some i =>
        have h2 := ix_some hi
        rw [show (a.logs s).length + 1 + out.length = (a.logs s).length + out.length + 1 by omega] at h2
        have := (I.on s hs _ _).2 ⟨h2, fun _ => by omega⟩
        rw [h] at this
        cases this
    · exact (Mod.Sk.commitFrom_stop hr).symm
/-- What lies on the shelves then is what the document's sink holds then. -/
theorem inCm_on {a : Mod.Sk} {s : Nat} {b : ByteArray} {out : List ByteArray} {sh : Nat → List (Nat × Value)} (I : InCm a s ((a.logs s).length + 1) b out sh) : OnSh (takeIt a s out).held sh := by
  intro t ht n c
  rw [I.on t ht n c]
  show _ ↔ _ ∈ (a.held.filter (Mod.keeps s (a.logs s ++ out).length))
  rw [List.mem_filter, List.length_append]
  unfold Mod.keeps
  by_cases e : t = s
  · subst e; simp
  · simp [e]
end Go.Proofs.YtamafdcnbcoegaaGreat
namespace Go.Proofs.YtamafdcnbcoegaaGreat
open Go.RowKit
section
variable {w x y : World} {p e e2 : Nat} {logs logs2 : Nat → List ByteArray} {sh sh2 : Nat → List (Nat × Value)} {st st2 : Mod.Stv} {c : Sv}
theorem pkStep_refl (H : PkAt w p e logs sh st c) : PkStep w w p e logs sh st c := ⟨c, H, Far.refl _ _, fun _ h => .inl h, rfl, rfl⟩
theorem PkStep.trans (h : PkStep w x p e logs sh st c) (h' : ∀ c', PkAt x p e logs sh st c' → PkStep x y p e2 logs2 sh2 st2 c') : PkStep w y p e2 logs2 sh2 st2 c := by
  obtain ⟨c1, h1, h2, h3, h4, h5⟩ := h
  obtain ⟨c2, k1, k2, k3, k4, k5⟩ := h' c1 h1
  refine ⟨c2, k1, h2.trans k2 (fun k hk hu => (h3 k hu).elim id (fun h => by omega)), fun k hk => ?_, k4.trans h4, k5.trans h5⟩
  rcases k3 k hk with h | h
  · exact h3 k h
  · exact .inr (Nat.le_trans h2.size h)
theorem PkStep.below (h : PkStep w x p e logs sh st c) (hb : Below x.heap.size x y) : PkStep w y p e logs sh st c :=
  h.trans (fun c' H => ⟨c', H.far (far_below (E := fun _ => False) hb) (fun _ _ h => h), far_below hb, fun _ h => .inl h, rfl, rfl⟩)
theorem PkAt.shAt (H : PkAt w p e logs sh st c) {i : Nat} (hi : i < 3) : ShAt w p (2 + i * 3 + 1) 176 c.arr (c.nv i) (c.mv i) (sh i) :=
  ⟨H.ks.blk, H.ks.an i hi, H.ks.am i hi, H.ks.shs i hi, by decide⟩
/-- One shelf of a sink is changed. -/
theorem pkAt_sh (H : PkAt w p e logs sh st c) {i : Nat} (hi : i < 3) {l' : List (Nat × Value)} {nv' mv' : Value} (S : ShAt x p (2 + i * 3 + 1) 176 ((c.arr.setIfInBounds (2 + i * 3 + 1) nv').setIfInBounds (2 + i * 3 + 1 + 1) mv') nv' mv' l') (hn : Loc w (c.nv i) nv')
    (hm : mapBlock mv' = mapBlock (c.mv i) ∨ ∃ g, mapBlock mv' = some g ∧ w.heap.size ≤ g) (hF : Far (fun k => k = p ∨ ShU (c.nv i) (c.mv i) k) w x) (A : AreS l') :
    PkAt x p e logs (fun t => if t = i then l' else sh t) st { c with arr := (c.arr.setIfInBounds (2 + i * 3 + 1) nv').setIfInBounds (2 + i * 3 + 1 + 1) mv', nv := fun t => if t = i then nv' else c.nv t, mv := fun t => if t = i then mv' else c.mv t } ∧
      (∀ k, ShU nv' mv' k → ShU (c.nv i) (c.mv i) k ∨ w.heap.size ≤ k) := by
  have hFU : ∀ k, (k = p ∨ ShU (c.nv i) (c.mv i) k) → KsU p c.lv c.nv c.mv k := fun k hk => hk.elim .inl (fun h => .inr (.inr ⟨i, hi, h⟩))
  have hst := H.stt.far hF (fun k hk h => H.sep k (hFU k h) hk)
  have hrl := H.rl.far hF (fun g hg h => (H.sepr g hg).1 (hFU g h))
  have hsz := H.ks.sz
  have hget : ∀ j, j ≠ 2 + i * 3 + 1 → j ≠ 2 + i * 3 + 2 → ((c.arr.setIfInBounds (2 + i * 3 + 1) nv').setIfInBounds (2 + i * 3 + 1 + 1) mv')[j]? = c.arr[j]? := fun j h1 h2 => by
    rw [Array.getElem?_setIfInBounds_ne (by omega), Array.getElem?_setIfInBounds_ne (by omega)]
  have hnew : ∀ k, ShU nv' mv' k → ShU (c.nv i) (c.mv i) k ∨ w.heap.size ≤ k := by
    rintro k (hk | hk)
    · rcases hn with h | h | ⟨g, h, hg⟩
      · rw [h] at hk; cases hk
      · exact .inl (.inl (by rw [← h]; exact hk))
      · rw [h] at hk; cases hk; exact .inr hg
    · rcases hm with h | ⟨g, h, hg⟩
      · exact .inl (.inr (by rw [← h]; exact hk))
      · rw [h] at hk; cases hk; exact .inr hg
  refine ⟨⟨⟨S.blk, by simpa using hsz, ?_, ?_, ?_, ?_, ?_, ?_, ?_, ?_, ?_, H.ks.apl, ?_, H.ks.cnt, H.ks.ep⟩, hst, hrl, H.len⟩, hnew⟩
  · rw [hget _ (by omega) (by omega)]; exact H.ks.a0
  · rw [hget _ (by omega) (by omega)]; exact H.ks.a1
  · intro j hj; rw [hget _ (by omega) (by omega)]; exact H.ks.al j hj
  · intro j hj
    show _ = some (if j = i then nv' else c.nv j)
    by_cases e : j = i
    · subst e; rw [if_pos rfl]; exact S.c0
    · rw [if_neg e, hget _ (by omega) (by omega)]; exact H.ks.an j hj
  · intro j hj
    show _ = some (if j = i then mv' else c.mv j)
    by_cases e : j = i
    · subst e; rw [if_pos rfl]; exact S.c1
    · rw [if_neg e, hget _ (by omega) (by omega)]; exact H.ks.am j hj
  · rw [hget _ (by omega) (by omega)]; exact H.ks.ar
  · intro j hj
    refine (H.ks.lgs j hj).far hF (fun g hg h => ?_)
    obtain ⟨cur, hc⟩ := row_cells (H.ks.lgs j hj) hg
    rcases h with h | h
    · exact (H.ks.lgs j hj).ne H.ks.blk (by decide) (by rw [hg, h])
    · exact (H.ks.shs i hi).ne hc (by decide) h
  · intro j hj
    show ShelfIs x (if j = i then nv' else c.nv j) (if j = i then mv' else c.mv j) (if j = i then l' else sh j)
    by_cases e : j = i
    · rw [if_pos e, if_pos e, if_pos e]; exact S.sh
    · rw [if_neg e, if_neg e, if_neg e]
      refine (H.ks.shs j hj).far hF (fun k hk h => ?_)
      rcases h with h | h
      · exact (H.ks.shs j hj).ne H.ks.blk (by decide) (by rw [← h]; exact hk)
      · exact H.ks.aps j i hj hi e k hk h
  · intro j hj
    show AreS (if j = i then l' else sh j)
    by_cases e : j = i
    · rw [if_pos e]; exact A
    · rw [if_neg e]; exact H.ks.are j hj
  · intro j j2 hj hj2 hne k hk
    replace hk : ShU (if j = i then nv' else c.nv j) (if j = i then mv' else c.mv j) k := hk
    show ¬ ShU (if j2 = i then nv' else c.nv j2) (if j2 = i then mv' else c.mv j2) k
    by_cases h1 : j = i
    · subst h1
      rw [if_pos rfl, if_pos rfl] at hk
      rw [if_neg (fun e => hne e.symm), if_neg (fun e => hne e.symm)]
      intro hk2
      rcases hnew k hk with h | h
      · exact H.ks.aps j j2 hj hj2 hne k h hk2
      · have := (H.ks.shs j2 hj2).lt k hk2; omega
    · rw [if_neg h1, if_neg h1] at hk
      by_cases h2 : j2 = i
      · subst h2
        rw [if_pos rfl, if_pos rfl]
        intro hk2
        rcases hnew k hk2 with h | h
        · exact H.ks.aps j j2 hj hj2 hne k hk h
        · have := (H.ks.shs j hj).lt k hk; omega
      · rw [if_neg h2, if_neg h2]
        exact H.ks.aps j j2 hj hj2 hne k hk
theorem pkStep_sh (H : PkAt w p e logs sh st c) {i : Nat} (hi : i < 3) {l' : List (Nat × Value)} (h : ShStep w x p (2 + i * 3 + 1) 176 c.arr (c.nv i) (c.mv i) l') (A : AreS l') :
    PkStep w x p e logs (fun t => if t = i then l' else sh t) st c := by
  obtain ⟨⟨nv', mv', S, hn, hm⟩, hF⟩ := h
  have hFU : ∀ k, (k = p ∨ ShU (c.nv i) (c.mv i) k) → KsU p c.lv c.nv c.mv k := fun k hk => hk.elim .inl (fun h => .inr (.inr ⟨i, hi, h⟩))
  obtain ⟨hP, hnew⟩ := pkAt_sh H hi S hn hm hF A
  refine ⟨_, hP, ?_, ?_, rfl, rfl⟩
  · exact hF.mono (fun k _ h => .inl (hFU k h))
  · rintro k ((rfl | hk | ⟨j, hj, hk⟩) | hk | hk)
    · exact .inl (.inl (.inl rfl))
    · exact .inl (.inl (.inr (.inl hk)))
    · have hk : ShU (if j = i then nv' else c.nv j) (if j = i then mv' else c.mv j) k := hk
      by_cases e : j = i
      · rw [if_pos e, if_pos e] at hk
        exact (hnew k hk).elim (fun h => .inl (.inl (.inr (.inr ⟨i, hi, h⟩)))) .inr
      · rw [if_neg e, if_neg e] at hk
        exact .inl (.inl (.inr (.inr ⟨j, hj, hk⟩)))
    · exact .inl (.inr (.inl hk))
    · exact .inl (.inr (.inr hk))
/-- Behind Take: no block more. -/
def TkAt (w z : World) (p e : Nat) (logs : Nat → List ByteArray) (sh : Nat → List (Nat × Value)) (st : Mod.Stv) (c : Sv) : Prop :=
  ∃ c', PkAt z p e logs sh st c' ∧ (∀ k, PkU p c' k → PkU p c k) ∧ Far (PkU p c) w z ∧ c'.s = c.s ∧ c'.rv = c.rv
theorem TkAt.far {E : Nat → Prop} (h : TkAt w x p e logs sh st c) (hlt : ∀ k, PkU p c k → k < w.heap.size) (hF : Far E x y) (hE : ∀ k, E k → w.heap.size ≤ k) : TkAt w y p e logs sh st c := by
  obtain ⟨c', h1, h2, h3, h4, h5⟩ := h
  exact ⟨c', h1.far hF (fun k hk e => by have := hlt k (h2 k hk); have := hE k e; omega), h2, h3.trans hF (fun k hk e => by have := hE k e; omega), h4, h5⟩
theorem tkAt_took (H : PkAt w p e logs sh st c) {i : Nat} (hi : i < 3) {l' : List (Nat × Value)} (h : ShTook w x p (2 + i * 3 + 1) 176 c.arr (c.nv i) (c.mv i) l') (A : AreS l') :
    TkAt w x p e logs (fun t => if t = i then l' else sh t) st c := by
  obtain ⟨⟨nv', S, hown⟩, hF⟩ := h
  have e2 : (c.arr.setIfInBounds (2 + i * 3 + 1) nv').setIfInBounds (2 + i * 3 + 1 + 1) (c.mv i) = c.arr.setIfInBounds (2 + i * 3 + 1) nv' := set_same (by rw [Array.getElem?_setIfInBounds_ne (by omega)]; exact H.ks.am i hi)
  obtain ⟨hP, _⟩ := pkAt_sh (nv' := nv') (mv' := c.mv i) H hi (by rw [e2]; exact S) (.inr (.inl hown)) (.inl rfl) hF A
  have hsu : ∀ k, ShU nv' (c.mv i) k → ShU (c.nv i) (c.mv i) k := fun k hk => hk.elim (fun h => .inl (by rw [← hown]; exact h)) .inr
  refine ⟨_, hP, ?_, hF.mono (fun k _ h => .inl (h.elim .inl (fun h => .inr (.inr ⟨i, hi, h⟩)))), rfl, rfl⟩
  rintro k ((rfl | hk | ⟨j, hj, hk⟩) | hk | hk)
  · exact .inl (.inl rfl)
  · exact .inl (.inr (.inl hk))
  · have hk : ShU (if j = i then nv' else c.nv j) (if j = i then c.mv i else c.mv j) k := hk
    by_cases e : j = i
    · rw [if_pos e, if_pos e] at hk
      exact .inl (.inr (.inr ⟨i, hi, hsu k hk⟩))
    · rw [if_neg e, if_neg e] at hk
      exact .inl (.inr (.inr ⟨j, hj, hk⟩))
  · exact .inr (.inl hk)
  · exact .inr (.inr hk)
end
/-- A disk that does not fail. -/
def Sound (st : Mod.Stv) : Prop := st.dk.dead = false ∧ st.dk.armed = 0
end Go.Proofs.YtamafdcnbcoegaaGreat
namespace Go.Proofs.YtamafdcnbcoegaaGreat
open Go.RowKit

/-- The program's agent: its block, its shelves (of each stream three: kept, sent, held), the places that are free. -/
structure KaAt (w : World) (p : Nat) (g : Nat → Nat) (tk : Nat) (wel fen : Bool) (free : List Nat) (sh : Nat → List (Nat × Value)) (arr : Array Value) (s : Nat) (nv mv : Nat → Value) (fv rv : Value) : Prop where
  blk : w.heap[p]? = some (.cells arr 151 (0, 0))
  sz : arr.size = 27
  a0 : arr[0]? = some (ptrTo s)
  ag : ∀ i, i < 3 → arr[1 + i]? = some (.int .i64 (g i))
  an : ∀ k, k < 9 → arr[4 + k * 2]? = some (nv k)
  am : ∀ k, k < 9 → arr[4 + k * 2 + 1]? = some (mv k)
  af : arr[22]? = some fv
  at' : arr[23]? = some (.int .i64 tk)
  aw : arr[24]? = some (.bool wel)
  ae : arr[25]? = some (.bool fen)
  ar : arr[26]? = some rv
  fr : RowO w 3 1 fv free.length (numCells free)
  shs : ∀ k, k < 9 → ShelfIs w (nv k) (mv k) (sh k)
  apf : ∀ k, k < 9 → ∀ j, ShU (nv k) (mv k) j → fv.ownBlock ≠ some j
  aps : ∀ j k, j < 9 → k < 9 → j ≠ k → ∀ b, ShU (nv j) (mv j) b → ¬ ShU (nv k) (mv k) b
/-- Its blocks (those of its store aside). -/
def KaU (p : Nat) (nv mv : Nat → Value) (fv : Value) (k : Nat) : Prop := k = p ∨ fv.ownBlock = some k ∨ ∃ i, i < 9 ∧ ShU (nv i) (mv i) k
/-- Where the parts of an agent lie. -/
structure Av where
  arr : Array Value
  s : Nat
  dp : Nat
  nv : Nat → Value
  mv : Nat → Value
  fv : Value
  rv : Value
  dlv : Value
  duv : Value
/-- What an agent does with a frame: a kind, and a method value. -/
def agRules (p : Nat) : List Value := [.int .i64 2, .func (.func 104) #[ptrTo p] #[], .int .i64 4, .func (.func 105) #[ptrTo p] #[], .int .i64 5, .func (.func 106) #[ptrTo p] #[]]
/-- The program's agent, its store and its disk. -/
structure PaAt (w : World) (p : Nat) (g : Nat → Nat) (tk : Nat) (wel fen : Bool) (free : List Nat) (sh : Nat → List (Nat × Value)) (st : Mod.Stv) (c : Av) : Prop where
  ks : KaAt w p g tk wel fen free sh c.arr c.s c.nv c.mv c.fv c.rv
  stt : StAt w c.s c.dp st c.dlv c.duv
  rl : RowO w 183 2 c.rv 3 (agRules p)
  len : st.dk.bytes.length = 1664
def PaU (p : Nat) (c : Av) (k : Nat) : Prop := KaU p c.nv c.mv c.fv k ∨ StU c.s c.dp c.dlv c.duv k ∨ c.rv.ownBlock = some k
section
variable {w x y : World} {p : Nat} {g g2 : Nat → Nat} {tk tk2 : Nat} {wel wel2 fen fen2 : Bool} {free free2 : List Nat} {sh sh2 : Nat → List (Nat × Value)} {arr : Array Value} {s : Nat} {nv mv : Nat → Value} {fv rv : Value} {st st2 : Mod.Stv} {c : Av}
theorem KaAt.far {E : Nat → Prop} (h : KaAt w p g tk wel fen free sh arr s nv mv fv rv) (hf : Far E w x) (hE : ∀ k, KaU p nv mv fv k → ¬ E k) : KaAt x p g tk wel fen free sh arr s nv mv fv rv :=
  ⟨hf.blk h.blk (hE p (.inl rfl)), h.sz, h.a0, h.ag, h.an, h.am, h.af, h.at', h.aw, h.ae, h.ar, h.fr.far hf (fun g hg => hE g (.inr (.inl hg))), fun i hi => (h.shs i hi).far hf (fun k hk => hE k (.inr (.inr ⟨i, hi, hk⟩))), h.apf, h.aps⟩
theorem KaAt.lt (h : KaAt w p g tk wel fen free sh arr s nv mv fv rv) : ∀ k, KaU p nv mv fv k → k < w.heap.size := by
  rintro k (rfl | hk | ⟨i, hi, hk⟩)
  · exact lt_of_block h.blk
  · exact h.fr.lt k hk
  · exact (h.shs i hi).lt k hk
theorem ka_not_cells (h : KaAt w p g tk wel fen free sh arr s nv mv fv rv) {q : Nat} {cs : Array Value} {t : TypeId} {fr : Nat × Nat} (hb : w.heap[q]? = some (.cells cs t fr)) (h1 : t ≠ 151) (h3 : t ≠ 3) : ¬ KaU p nv mv fv q := by
  rintro (rfl | hk | ⟨i, hi, hk⟩)
  · have := h.blk
    rw [hb] at this
    injection this with this
    injection this with _ this _
    exact h1 this
  · exact h.fr.ne hb (fun e => h3 e.symm) hk
  · exact (h.shs i hi).ne hb h3 hk
theorem PaAt.lt (h : PaAt w p g tk wel fen free sh st c) : ∀ k, PaU p c k → k < w.heap.size := by
  rintro k (hk | hk | hk)
  · exact h.ks.lt k hk
  · exact h.stt.lt k hk
  · exact h.rl.lt k hk
theorem PaAt.far {E : Nat → Prop} (h : PaAt w p g tk wel fen free sh st c) (hf : Far E w x) (hE : ∀ k, PaU p c k → ¬ E k) : PaAt x p g tk wel fen free sh st c :=
  ⟨h.ks.far hf (fun k hk => hE k (.inl hk)), h.stt.far hf (fun k hk => hE k (.inr (.inl hk))), h.rl.far hf (fun g hg => hE g (.inr (.inr hg))), h.len⟩
theorem PaAt.below (h : PaAt w p g tk wel fen free sh st c) (hb : Below w.heap.size w x) : PaAt x p g tk wel fen free sh st c := h.far (far_below (E := fun _ => False) hb) (fun _ _ h => h)
theorem PaAt.sep (h : PaAt w p g tk wel fen free sh st c) : ∀ k, KaU p c.nv c.mv c.fv k → ¬ StU c.s c.dp c.dlv c.duv k := by
  rintro k hk (hs | hs | hs | hs)
  · subst hs; exact ka_not_cells h.ks h.stt.blk (by decide) (by decide) hk
  · subst hs; exact ka_not_cells h.ks h.stt.dk.blk (by decide) (by decide) hk
  · obtain ⟨cur, hc⟩ := row_cells (RowO.of_own h.stt.dk.row) hs
    exact ka_not_cells h.ks hc (by decide) (by decide) hk
  · obtain ⟨cur, hc⟩ := row_cells h.stt.dk.un hs
    exact ka_not_cells h.ks hc (by decide) (by decide) hk
theorem PaAt.sepr (h : PaAt w p g tk wel fen free sh st c) : ∀ k, c.rv.ownBlock = some k → ¬ KaU p c.nv c.mv c.fv k ∧ ¬ StU c.s c.dp c.dlv c.duv k := by
  intro k hk
  obtain ⟨cur, hc⟩ := row_cells h.rl hk
  refine ⟨ka_not_cells h.ks hc (by decide) (by decide), ?_⟩
  rintro (hs | hs)
  · rw [hs, h.stt.blk] at hc
    injection hc with hc
    injection hc with _ hc _
    exact absurd hc (by decide)
  · exact dk_ne h.stt.dk hc (by decide) (by decide) (by decide) hs
theorem pa_not_cells (H : PaAt w p g tk wel fen free sh st c) {q : Nat} {cs : Array Value} {t : TypeId} {fr : Nat × Nat} (hb : w.heap[q]? = some (.cells cs t fr))
    (h1 : t ≠ 151) (h3 : t ≠ 3) (h4 : t ≠ 203) (h5 : t ≠ 252) (h6 : t ≠ 5) (h7 : t ≠ 261) (h8 : t ≠ 183) : ¬ PaU p c q := by
  rintro (h | (h | h) | h)
  · exact ka_not_cells H.ks hb h1 h3 h
  · subst h
    have := H.stt.blk
    rw [hb] at this
    injection this with this
    injection this with _ this _
    exact h4 this
  · exact dk_ne H.stt.dk hb (fun e => h5 e.symm) (fun e => h6 e.symm) (fun e => h7 e.symm) h
  · exact H.rl.ne hb (fun e => h8 e.symm) h
/-- Behind a call that may change an agent. -/
def PaStep (w x : World) (p : Nat) (g : Nat → Nat) (tk : Nat) (wel fen : Bool) (free : List Nat) (sh : Nat → List (Nat × Value)) (st : Mod.Stv) (c : Av) : Prop :=
  ∃ c', PaAt x p g tk wel fen free sh st c' ∧ Far (PaU p c) w x ∧ (∀ k, PaU p c' k → PaU p c k ∨ w.heap.size ≤ k) ∧ c'.s = c.s ∧ c'.rv = c.rv
theorem paStep_refl (H : PaAt w p g tk wel fen free sh st c) : PaStep w w p g tk wel fen free sh st c := ⟨c, H, Far.refl _ _, fun _ h => .inl h, rfl, rfl⟩
theorem PaStep.behind (h : PaStep x y p g tk wel fen free sh st c) (hb : Below w.heap.size w x) : PaStep w y p g tk wel fen free sh st c := by
  obtain ⟨c', h1, h2, h3, h4, h5⟩ := h
  exact ⟨c', h1, (far_below (E := PaU p c) hb).trans h2 (fun _ _ h => h), fun k hk => (h3 k hk).imp id (fun h => Nat.le_trans hb.size h), h4, h5⟩
theorem PaAt.shAt (H : PaAt w p g tk wel fen free sh st c) {i : Nat} (hi : i < 9) : ShAt w p (4 + i * 2) 151 c.arr (c.nv i) (c.mv i) (sh i) :=
  ⟨H.ks.blk, H.ks.an i hi, H.ks.am i hi, H.ks.shs i hi, by decide⟩
/-- One shelf of an agent is changed. -/
theorem paStep_sh (H : PaAt w p g tk wel fen free sh st c) {i : Nat} (hi : i < 9) {l' : List (Nat × Value)} (h : ShStep w x p (4 + i * 2) 151 c.arr (c.nv i) (c.mv i) l') :
    PaStep w x p g tk wel fen free (fun t => if t = i then l' else sh t) st c := by
  obtain ⟨⟨nv', mv', S, hn, hm⟩, hF⟩ := h
  have hFU : ∀ k, (k = p ∨ ShU (c.nv i) (c.mv i) k) → KaU p c.nv c.mv c.fv k := fun k hk => hk.elim .inl (fun h => .inr (.inr ⟨i, hi, h⟩))
  have hsz := H.ks.sz
  have hget : ∀ j, j ≠ 4 + i * 2 → j ≠ 4 + i * 2 + 1 → ((c.arr.setIfInBounds (4 + i * 2) nv').setIfInBounds (4 + i * 2 + 1) mv')[j]? = c.arr[j]? := fun j h1 h2 => by
    rw [Array.getElem?_setIfInBounds_ne (by omega), Array.getElem?_setIfInBounds_ne (by omega)]
  have hnew : ∀ k, ShU nv' mv' k → ShU (c.nv i) (c.mv i) k ∨ w.heap.size ≤ k := by
    rintro k (hk | hk)
    · rcases hn with h | h | ⟨g, h, hg⟩
      · rw [h] at hk; cases hk
      · exact .inl (.inl (by rw [← h]; exact hk))
      · rw [h] at hk; cases hk; exact .inr hg
    · rcases hm with h | ⟨g, h, hg⟩
      · exact .inl (.inr (by rw [← h]; exact hk))
      · rw [h] at hk; cases hk; exact .inr hg
  have hfvp : c.fv.ownBlock ≠ some p := H.ks.fr.ne H.ks.blk (by decide)
  refine ⟨{ c with arr := (c.arr.setIfInBounds (4 + i * 2) nv').setIfInBounds (4 + i * 2 + 1) mv', nv := fun t => if t = i then nv' else c.nv t, mv := fun t => if t = i then mv' else c.mv t },
    ⟨⟨S.blk, by simpa using hsz, ?_, ?_, ?_, ?_, ?_, ?_, ?_, ?_, ?_, ?_, ?_, ?_, ?_⟩, H.stt.far hF (fun k hk h => H.sep k (hFU k h) hk), H.rl.far hF (fun g hg h => (H.sepr g hg).1 (hFU g h)), H.len⟩, hF.mono (fun k _ h => .inl (hFU k h)), ?_, rfl, rfl⟩
  · rw [hget _ (by omega) (by omega)]; exact H.ks.a0
  · intro j hj; rw [hget _ (by omega) (by omega)]; exact H.ks.ag j hj
  · intro j hj
    show _ = some (if j = i then nv' else c.nv j)
    by_cases e : j = i
    · subst e; rw [if_pos rfl]; exact S.c0
    · rw [if_neg e, hget _ (by omega) (by omega)]; exact H.ks.an j hj
  · intro j hj
    show _ = some (if j = i then mv' else c.mv j)
    by_cases e : j = i
    · subst e; rw [if_pos rfl]; exact S.c1
    · rw [if_neg e, hget _ (by omega) (by omega)]; exact H.ks.am j hj
  · rw [hget _ (by omega) (by omega)]; exact H.ks.af
  · rw [hget _ (by omega) (by omega)]; exact H.ks.at'
  · rw [hget _ (by omega) (by omega)]; exact H.ks.aw
  · rw [hget _ (by omega) (by omega)]; exact H.ks.ae
  · rw [hget _ (by omega) (by omega)]; exact H.ks.ar
  · exact H.ks.fr.far hF (fun g hg h => h.elim (fun h => hfvp (by rw [hg, h])) (fun h => H.ks.apf i hi g h hg))
  · intro j hj
    show ShelfIs x (if j = i then nv' else c.nv j) (if j = i then mv' else c.mv j) (if j = i then l' else sh j)
    by_cases e : j = i
    · rw [if_pos e, if_pos e, if_pos e]; exact S.sh
    · rw [if_neg e, if_neg e, if_neg e]
      refine (H.ks.shs j hj).far hF (fun k hk h => ?_)
      rcases h with h | h
      · exact (H.ks.shs j hj).ne H.ks.blk (by decide) (by rw [← h]; exact hk)
      · exact H.ks.aps j i hj hi e k hk h
  · intro j hj b hb
    replace hb : ShU (if j = i then nv' else c.nv j) (if j = i then mv' else c.mv j) b := hb
    by_cases e : j = i
    · rw [if_pos e, if_pos e] at hb
      rcases hnew b hb with h | h
      · exact H.ks.apf i hi b h
      · intro hf
        have := H.ks.fr.lt b hf
        omega
    · rw [if_neg e, if_neg e] at hb
      exact H.ks.apf j hj b hb
  · intro j j2 hj hj2 hne k hk
    replace hk : ShU (if j = i then nv' else c.nv j) (if j = i then mv' else c.mv j) k := hk
    show ¬ ShU (if j2 = i then nv' else c.nv j2) (if j2 = i then mv' else c.mv j2) k
    by_cases h1 : j = i
    · subst h1
      rw [if_pos rfl, if_pos rfl] at hk
      rw [if_neg (fun e => hne e.symm), if_neg (fun e => hne e.symm)]
      intro hk2
      rcases hnew k hk with h | h
      · exact H.ks.aps j j2 hj hj2 hne k h hk2
      · have := (H.ks.shs j2 hj2).lt k hk2; omega
    · rw [if_neg h1, if_neg h1] at hk
      by_cases h2 : j2 = i
      · subst h2
        rw [if_pos rfl, if_pos rfl]
        intro hk2
        rcases hnew k hk2 with h | h
        · exact H.ks.aps j j2 hj hj2 hne k hk h
        · have := (H.ks.shs j hj).lt k hk; omega
      · rw [if_neg h2, if_neg h2]
        exact H.ks.aps j j2 hj hj2 hne k hk
  · rintro k ((rfl | hk | ⟨j, hj, hk⟩) | hk | hk)
    · exact .inl (.inl (.inl rfl))
    · exact .inl (.inl (.inr (.inl hk)))
    · have hk : ShU (if j = i then nv' else c.nv j) (if j = i then mv' else c.mv j) k := hk
      by_cases e : j = i
      · rw [if_pos e, if_pos e] at hk
        exact (hnew k hk).elim (fun h => .inl (.inl (.inr (.inr ⟨i, hi, h⟩)))) .inr
      · rw [if_neg e, if_neg e] at hk
        exact .inl (.inl (.inr (.inr ⟨j, hj, hk⟩)))
    · exact .inl (.inr (.inl hk))
    · exact .inl (.inr (.inr hk))
/-- A cell of the agent's own block that is no shelf's and not the free places' is written. -/
theorem paStep_cell (H : PaAt w p g tk wel fen free sh st c) (i : Nat) (v : Value) (hi : (1 ≤ i ∧ i < 4) ∨ (23 ≤ i ∧ i < 26))
    (hg : ∀ j, j < 3 → (c.arr.setIfInBounds i v)[1 + j]? = some (.int .i64 (g2 j))) (ht : (c.arr.setIfInBounds i v)[23]? = some (.int .i64 tk2)) (hw : (c.arr.setIfInBounds i v)[24]? = some (.bool wel2)) (he : (c.arr.setIfInBounds i v)[25]? = some (.bool fen2)) :
    PaStep w (w.setCell ⟨p, i, none⟩ v) p g2 tk2 wel2 fen2 free sh st c := by
  have hs := far_set w p i v
  have hget : ∀ j, j ≠ i → (c.arr.setIfInBounds i v)[j]? = c.arr[j]? := fun j hj => Array.getElem?_setIfInBounds_ne (fun e => hj e.symm)
  have hfvp : c.fv.ownBlock ≠ some p := H.ks.fr.ne H.ks.blk (by decide)
  refine ⟨{ c with arr := c.arr.setIfInBounds i v }, ⟨⟨blk_set H.ks.blk, by simpa using H.ks.sz, ?_, hg, ?_, ?_, ?_, ht, hw, he, ?_, ?_, ?_, H.ks.apf, H.ks.aps⟩, H.stt.far hs (fun k hk h => H.sep k (.inl h) hk), H.rl.far hs (fun g hg h => (H.sepr g hg).1 (.inl h)), H.len⟩, hs.mono (fun k _ h => .inl (.inl h)), fun k hk => .inl hk, rfl, rfl⟩
  · rw [hget _ (by omega)]; exact H.ks.a0
  · intro j hj; rw [hget _ (by omega)]; exact H.ks.an j hj
  · intro j hj; rw [hget _ (by omega)]; exact H.ks.am j hj
  · rw [hget _ (by omega)]; exact H.ks.af
  · rw [hget _ (by omega)]; exact H.ks.ar
  · exact H.ks.fr.far hs (fun g hg h => hfvp (by rw [hg, h]))
  · intro j hj; exact (H.ks.shs j hj).far hs (fun k hk h => (H.ks.shs j hj).ne H.ks.blk (by decide) (by rw [← h]; exact hk))
/-- The free places' row is another one. -/
theorem paStep_free (H : PaAt w p g tk wel fen free sh st c) (v : Value) (hF : Far (fun k => c.fv.ownBlock = some k) w x) (hv : RowO x 3 1 v free2.length (numCells free2)) (hl : Loc w c.fv v) :
    PaStep w (x.setCell ⟨p, 22, none⟩ v) p g tk wel fen free2 sh st c := by
  have hs := far_set x p 22 v
  have hget : ∀ j, j ≠ 22 → (c.arr.setIfInBounds 22 v)[j]? = c.arr[j]? := fun j hj => Array.getElem?_setIfInBounds_ne (fun e => hj e.symm)
  have h22 : 22 < c.arr.size := by rw [H.ks.sz]; omega
  have hfvp : c.fv.ownBlock ≠ some p := H.ks.fr.ne H.ks.blk (by decide)
  have hbx := hF.blk H.ks.blk hfvp
  have hvp : v.ownBlock ≠ some p := hv.ne hbx (by decide)
  have hF2 : Far (fun k => k = p ∨ c.fv.ownBlock = some k) w (x.setCell ⟨p, 22, none⟩ v) := (hF.mono (fun _ _ h => .inr h)).trans hs (fun _ _ h => .inl h)
  have hEU : ∀ k, (k = p ∨ c.fv.ownBlock = some k) → KaU p c.nv c.mv c.fv k := fun k h => h.elim .inl (fun h => .inr (.inl h))
  refine ⟨{ c with arr := c.arr.setIfInBounds 22 v, fv := v }, ⟨⟨blk_set hbx, by simpa using H.ks.sz, ?_, ?_, ?_, ?_, ?_, ?_, ?_, ?_, ?_, ?_, ?_, ?_, H.ks.aps⟩, H.stt.far hF2 (fun k hk h => H.sep k (hEU k h) hk), H.rl.far hF2 (fun g hg h => (H.sepr g hg).1 (hEU g h)), H.len⟩, hF2.mono (fun k _ h => .inl (hEU k h)), ?_, rfl, rfl⟩
  · rw [hget _ (by omega)]; exact H.ks.a0
  · intro j hj; rw [hget _ (by omega)]; exact H.ks.ag j hj
  · intro j hj; rw [hget _ (by omega)]; exact H.ks.an j hj
  · intro j hj; rw [hget _ (by omega)]; exact H.ks.am j hj
  · simp [h22]
  · rw [hget _ (by omega)]; exact H.ks.at'
  · rw [hget _ (by omega)]; exact H.ks.aw
  · rw [hget _ (by omega)]; exact H.ks.ae
  · rw [hget _ (by omega)]; exact H.ks.ar
  · exact hv.far hs (fun g hg e => hvp (by rw [hg, e]))
  · intro j hj
    refine (H.ks.shs j hj).far hF2 (fun k hk e => ?_)
    rcases e with rfl | e
    · exact (H.ks.shs j hj).ne H.ks.blk (by decide) hk
    · exact H.ks.apf j hj k hk e
  · intro j hj b hb hvb
    rcases hl with h | h | ⟨g', h, hg'⟩
    · rw [h] at hvb; cases hvb
    · rw [h] at hvb; exact H.ks.apf j hj b hb hvb
    · rw [h] at hvb; cases hvb
      have := (H.ks.shs j hj).lt b hb
      omega
  · rintro k ((rfl | hk | hk) | hk | hk)
    · exact .inl (.inl (.inl rfl))
    · rcases hl with h | h | ⟨g', h, hg'⟩
      · rw [h] at hk; cases hk
      · exact .inl (.inl (.inr (.inl (by rw [← h]; exact hk))))
      · rw [h] at hk; cases hk; exact .inr hg'
    · exact .inl (.inl (.inr (.inr hk)))
    · exact .inl (.inr (.inl hk))
    · exact .inl (.inr (.inr hk))
end
end Go.Proofs.YtamafdcnbcoegaaGreat
namespace Go.Proofs.YtamafdcnbcoegaaGreat
open Go.RowKit

/-- The records that are kept of a stream, by their numbers, with their places on the disk. -/
def keptL : Nat → List (ByteArray × Nat) → List Nat → List (Nat × Value)
  | b, x :: r, q :: qs => (b + 1, recA x.1 q) :: keptL (b + 1) r qs
  | _, _, _ => []
theorem keptL_cons (b : Nat) (x : ByteArray × Nat) (r : List (ByteArray × Nat)) (q : Nat) (qs : List Nat) : keptL b (x :: r) (q :: qs) = (b + 1, recA x.1 q) :: keptL (b + 1) r qs := rfl
theorem keptL_length : ∀ (b : Nat) (k : List (ByteArray × Nat)) (p : List Nat), p.length = k.length → (keptL b k p).length = k.length
  | b, [], [], _ => rfl
  | b, x :: r, q :: qs, h => by
    rw [keptL_cons, List.length_cons, keptL_length (b + 1) r qs (by simpa using h), List.length_cons]
theorem keptL_get : ∀ (b : Nat) (k : List (ByteArray × Nat)) (p : List Nat) (j : Nat), p.length = k.length → ∀ (hj : j < k.length), (keptL b k p)[j]? = some (b + 1 + j, recA k[j].1 (p.getD j 0))
  | b, [], _, j, _, hj => by simp at hj
  | b, x :: r, [], j, h, _ => by simp at h
  | b, x :: r, q :: qs, 0, h, hj => by simp [keptL]
  | b, x :: r, q :: qs, j + 1, h, hj => by
    rw [keptL_cons, List.getElem?_cons_succ, keptL_get (b + 1) r qs j (by simpa using h) (by simpa using hj)]
    simp
    omega
theorem keptL_app : ∀ (b : Nat) (k k' : List (ByteArray × Nat)) (p p' : List Nat), p.length = k.length → keptL b (k ++ k') (p ++ p') = keptL b k p ++ keptL (b + k.length) k' p'
  | b, [], k', [], p', _ => by simp [keptL]
  | b, [], k', q :: qs, p', h => by simp at h
  | b, x :: r, k', [], p', h => by simp at h
  | b, x :: r, k', q :: qs, p', h => by
    show keptL b (x :: (r ++ k')) (q :: (qs ++ p')) = _
    rw [keptL_cons, keptL_cons, keptL_app (b + 1) r k' qs p' (by simpa using h), show b + 1 + r.length = b + (r.length + 1) by omega]
    rfl
theorem keptL_mem : ∀ (b : Nat) (k : List (ByteArray × Nat)) (p : List Nat), ∀ x ∈ keptL b k p, b < x.1
  | b, [], _, x, hx => by simp [keptL] at hx
  | b, _ :: _, [], x, hx => by simp [keptL] at hx
  | b, y :: r, q :: qs, x, hx => by
    rw [keptL_cons] at hx
    cases hx with
    | head => show b < b + 1; omega
    | tail _ hx =>
      have := keptL_mem (b + 1) r qs x hx
      omega
theorem keptL_le : ∀ (b : Nat) (k : List (ByteArray × Nat)) (p : List Nat), ∀ x ∈ keptL b k p, x.1 ≤ b + k.length
  | b, [], _, x, hx => by simp [keptL] at hx
  | b, _ :: _, [], x, hx => by simp [keptL] at hx
  | b, y :: r, q :: qs, x, hx => by
    rw [keptL_cons] at hx
    cases hx with
    | head => show b + 1 ≤ _; simp
    | tail _ hx =>
      have := keptL_le (b + 1) r qs x hx
      simp at this ⊢
      omega
theorem keptL_are : ∀ (b : Nat) (k : List (ByteArray × Nat)) (p : List Nat), AreA (keptL b k p)
  | b, [], _, x, hx => by simp [keptL] at hx
  | b, _ :: _, [], x, hx => by simp [keptL] at hx
  | b, y :: r, q :: qs, x, hx => by
    rw [keptL_cons] at hx
    cases hx with
    | head => exact ⟨y.1, q, rfl⟩
    | tail _ hx => exact keptL_are (b + 1) r qs x hx
/-- The last number of a stream. -/
theorem keptL_last (b : Nat) (k : List (ByteArray × Nat)) (p : List Nat) (h : p.length = k.length) : max (match (keptL b k p).getLast? with | none => 0 | some x => x.1) b = b + k.length := by
  rcases List.eq_nil_or_concat k with rfl | ⟨k', x, rfl⟩
  · simp [keptL]
  · rcases List.eq_nil_or_concat p with rfl | ⟨p', q, rfl⟩
    · simp at h
    · have h' : p'.length = k'.length := by simpa using h
      have : (keptL b (k' ++ [x]) (p' ++ [q])).getLast? = some (b + k'.length + 1, recA x.1 q) := by
        rw [keptL_app b k' [x] p' [q] h']
        simp [keptL]
      rw [List.concat_eq_append, List.concat_eq_append] at *
      rw [this]
      simp
      omega
theorem putL_end : ∀ (l : List (Nat × Value)) (n : Nat) (v : Value), (∀ x ∈ l, x.1 < n) → putL l n v = l ++ [(n, v)]
  | [], n, v, _ => rfl
  | x :: r, n, v, h => by
    have h0 := h x (.head _)
    unfold putL
    rw [if_neg (by omega), if_neg (by omega), putL_end r n v (fun y hy => h y (.tail _ hy))]
    rfl
theorem keptL_put (b : Nat) (k : List (ByteArray × Nat)) (p : List Nat) (h : p.length = k.length) (s : ByteArray) (t q : Nat) : putL (keptL b k p) (b + k.length + 1) (recA s q) = keptL b (k ++ [(s, t)]) (p ++ [q]) := by
  rw [putL_end _ _ _ (fun x hx => by have := keptL_le b k p x hx; omega), keptL_app b k [(s, t)] p [q] h]
  simp [keptL]
/-- The ticks at which records were sent last, by their numbers. -/
def sentF (f : Mod.Flow) (n : Nat) : Option Value :=
  if n ≤ f.base then none else match f.kept[n - f.base - 1]? with
    | some x => if x.2 = 0 then none else some (recI x.2)
    | none => none
/-- What lies in an agent's memory of the document's agent. -/
structure OnAg (a : Mod.Ag) (op : Nat) (g : Nat → Nat) (free : List Nat) (sh : Nat → List (Nat × Value)) (pl : Nat → List Nat) : Prop where
  ep : op = a.epoch
  bs : ∀ i, i < 3 → g i = (a.fl i).base
  pn : ∀ i, i < 3 → (pl i).length = (a.fl i).kept.length
  kp : ∀ i, i < 3 → sh (i * 3) = keptL (a.fl i).base (a.fl i).kept (pl i)
  sn : ∀ i, i < 3 → ∀ n : Nat, look (sh (i * 3 + 1)) (n : Int) = sentF (a.fl i) n
  si : ∀ i, i < 3 → AreI (sh (i * 3 + 1))
  hd : ∀ i, i < 3 → ∀ n : Nat, (look (sh (i * 3 + 2)) (n : Int)).isSome = (a.fl i).held.contains n
  hu : ∀ i, i < 3 → AreU (sh (i * 3 + 2))
  hl : ∀ i, i < 3 → (sh (i * 3 + 2)).length ≤ 3
  nd : (free ++ pl 0 ++ pl 1 ++ pl 2).Nodup
  lt : ∀ x ∈ free ++ pl 0 ++ pl 1 ++ pl 2, x < 24
  sum : free.length + a.room = 24
theorem room_le {a : Mod.Ag} {i : Nat} (hi : i < 3) : (a.fl i).kept.length ≤ a.room := by
  obtain rfl | rfl | rfl : i = 0 ∨ i = 1 ∨ i = 2 := by omega
  all_goals
    unfold Mod.Ag.room
    omega
theorem OnAg.small {a : Mod.Ag} {op : Nat} {g : Nat → Nat} {free : List Nat} {sh : Nat → List (Nat × Value)} {pl : Nat → List Nat} (O : OnAg a op g free sh pl) {i : Nat} (hi : i < 3) : (a.fl i).kept.length ≤ 24 := by
  have := room_le (a := a) hi
  have := O.sum
  omega
end Go.Proofs.YtamafdcnbcoegaaGreat
namespace Go.Proofs.YtamafdcnbcoegaaGreat
open Go.RowKit
section
variable {a : Mod.Ag} {op : Nat} {g : Nat → Nat} {free : List Nat} {sh : Nat → List (Nat × Value)} {pl : Nat → List Nat}

theorem sentF_snoc (f : Mod.Flow) (s : ByteArray) (n : Nat) : sentF { f with kept := f.kept ++ [(s, 0)] } n = sentF f n := by
  unfold sentF
  simp only
  split
  · rfl
  · by_cases h : n - f.base - 1 < f.kept.length
    · rw [List.getElem?_append_left h]
    · rw [List.getElem?_append_right (by omega)]
      have h2 : f.kept[n - f.base - 1]? = none := List.getElem?_eq_none (by omega)
      rw [h2]
      by_cases h3 : n - f.base - 1 - f.kept.length = 0
      · rw [h3]; rfl
      · have : ([(s, 0)] : List (ByteArray × Nat))[n - f.base - 1 - f.kept.length]? = none := List.getElem?_eq_none (by simp; omega)
        rw [this]
theorem perm_pl {i : Nat} (hi : i < 3) (p' : List Nat) (fr : List Nat) (h : (fr ++ p').Perm (free ++ pl i)) :
    (fr ++ (fun t => if t = i then p' else pl t) 0 ++ (fun t => if t = i then p' else pl t) 1 ++ (fun t => if t = i then p' else pl t) 2).Perm (free ++ pl 0 ++ pl 1 ++ pl 2) := by
  obtain rfl | rfl | rfl : i = 0 ∨ i = 1 ∨ i = 2 := by omega
  · simp only [if_pos, if_neg (show ¬ (1 : Nat) = 0 by omega), if_neg (show ¬ (2 : Nat) = 0 by omega)]
    exact (h.append_right _).append_right _
  · simp only [if_neg (show ¬ (0 : Nat) = 1 by omega), if_pos, if_neg (show ¬ (2 : Nat) = 1 by omega)]
    refine List.Perm.append_right _ ?_
    have h1 : (fr ++ pl 0 ++ p').Perm (fr ++ p' ++ pl 0) := by
      rw [List.append_assoc, List.append_assoc]
      exact List.perm_append_comm.append_left _
    have h2 : (free ++ pl 1 ++ pl 0).Perm (free ++ pl 0 ++ pl 1) := by
      rw [List.append_assoc, List.append_assoc]
      exact List.perm_append_comm.append_left _
    exact (h1.trans (h.append_right _)).trans h2
  · simp only [if_neg (show ¬ (0 : Nat) = 2 by omega), if_neg (show ¬ (1 : Nat) = 2 by omega), if_pos]
    have h1 : (fr ++ pl 0 ++ pl 1 ++ p').Perm (fr ++ p' ++ (pl 0 ++ pl 1)) := by
      rw [List.append_assoc fr, List.append_assoc, List.append_assoc fr p']
      exact List.perm_append_comm.append_left _
    have h2 : (free ++ pl 2 ++ (pl 0 ++ pl 1)).Perm (free ++ pl 0 ++ pl 1 ++ pl 2) := by
      rw [List.append_assoc free (pl 0), List.append_assoc, List.append_assoc]
      exact List.perm_append_comm.append_left _
    exact (h1.trans (h.append_right _)).trans h2
theorem room_upd {i : Nat} (hi : i < 3) (f : Mod.Flow) : (Mod.Ag.room { a with fl := Mod.upd a.fl i f }) + (a.fl i).kept.length = a.room + f.kept.length := by
  obtain rfl | rfl | rfl : i = 0 ∨ i = 1 ∨ i = 2 := by omega
  all_goals
    simp [Mod.Ag.room, Mod.upd]
    omega
/-- A record is taken: it lies at a place that was free. -/
theorem onAg_submit {fr : List Nat} {q : Nat} (O : OnAg a op g (fr ++ [q]) sh pl) {i : Nat} (hi : i < 3) (s : ByteArray) :
    OnAg (a.submit i s) op g fr (fun t => if t = i * 3 then putL (sh (i * 3)) ((a.fl i).base + (a.fl i).kept.length + 1) (recA s q) else sh t) (fun t => if t = i then pl i ++ [q] else pl t) := by
  have hfl : ∀ j, (a.submit i s).fl j = if j = i then { a.fl i with kept := (a.fl i).kept ++ [(s, 0)] } else a.fl j := fun j => rfl
  refine ⟨O.ep, fun j hj => ?_, fun j hj => ?_, fun j hj => ?_, fun j hj n => ?_, fun j hj => ?_, fun j hj n => ?_, fun j hj => ?_, fun j hj => ?_, ?_, ?_, ?_⟩
  · rw [hfl]
    by_cases e : j = i
    · subst e; rw [if_pos rfl]; exact O.bs j hj
    · rw [if_neg e]; exact O.bs j hj
  · rw [hfl]
    show (if j = i then pl i ++ [q] else pl j).length = _
    by_cases e : j = i
    · subst e; rw [if_pos rfl, if_pos rfl]; simp [O.pn j hj]
    · rw [if_neg e, if_neg e]; exact O.pn j hj
  · rw [hfl]
    show (if j * 3 = i * 3 then _ else sh (j * 3)) = keptL _ _ (if j = i then pl i ++ [q] else pl j)
    by_cases e : j = i
    · subst e
      rw [if_pos rfl, if_pos rfl, if_pos rfl, O.kp j hj]
      exact keptL_put _ _ _ (O.pn j hj) s 0 q
    · rw [if_neg (by omega), if_neg e, if_neg e]; exact O.kp j hj
  · show look (if j * 3 + 1 = i * 3 then _ else sh (j * 3 + 1)) _ = _
    rw [if_neg (by omega), hfl, O.sn j hj n]
    by_cases e : j = i
    · subst e; rw [if_pos rfl, sentF_snoc]
    · rw [if_neg e]
  · show AreI (if j * 3 + 1 = i * 3 then _ else sh (j * 3 + 1))
    rw [if_neg (by omega)]; exact O.si j hj
  · show (look (if j * 3 + 2 = i * 3 then _ else sh (j * 3 + 2)) _).isSome = _
    rw [if_neg (by omega), hfl, O.hd j hj n]
    by_cases e : j = i
    · subst e; rw [if_pos rfl]
    · rw [if_neg e]
  · show AreU (if j * 3 + 2 = i * 3 then _ else sh (j * 3 + 2))
    rw [if_neg (by omega)]; exact O.hu j hj
  · show (if j * 3 + 2 = i * 3 then _ else sh (j * 3 + 2)).length ≤ 3
    rw [if_neg (by omega)]; exact O.hl j hj
  · refine (perm_pl hi (pl i ++ [q]) fr ?_).nodup_iff.2 O.nd
    rw [List.append_assoc fr [q]]
    exact List.perm_append_comm.append_left _
  · intro x hx
    refine O.lt x ((perm_pl hi (pl i ++ [q]) fr ?_).mem_iff.1 hx)
    rw [List.append_assoc fr [q]]
    exact List.perm_append_comm.append_left _
  · have h1 := O.sum
    obtain ⟨f2, hf2⟩ : ∃ f2, f2 = ({ a.fl i with kept := (a.fl i).kept ++ [(s, 0)] } : Mod.Flow) := ⟨_, rfl⟩
    have hk : f2.kept.length = (a.fl i).kept.length + 1 := by rw [hf2]; simp
    have h3 : (a.submit i s).room = Mod.Ag.room { a with fl := Mod.upd a.fl i f2 } := by rw [hf2]; rfl
    have h2 := room_upd (a := a) hi f2
    rw [hk] at h2
    rw [h3]
    rw [List.length_append, List.length_singleton] at h1
    omega
end
end Go.Proofs.YtamafdcnbcoegaaGreat
namespace Go.Proofs.YtamafdcnbcoegaaGreat
open Go.RowKit

section
variable {w : World} {p : Nat} {g : Nat → Nat} {tk : Nat} {wel fen : Bool} {free : List Nat} {sh : Nat → List (Nat × Value)} {st : Mod.Stv} {c : Av} {a : Mod.Ag} {op : Nat} {go : Nat → Nat} {pl : Nat → List Nat}
theorem agEpoch_any (H : PaAt w p g tk wel fen free sh st c) :
    Calls Tryz.prog 66 #[ptrTo p] w fun r w' => r = .returned (.int .i64 st.opening) ∧ w' = w := by
  have c0 : w.cell? ⟨p, 0, none⟩ = some (ptrTo c.s) := by rw [blk_cell H.ks.blk, H.ks.a0]
  have HO := hide (storeOpening_any H.stt)
  clear H
  unfold ptrTo at *
  go_enter Tryz.func66, Tryz.ntmps66
  go_wp2_with (go_at_call 111; refine (unhide HO).mono ?_; rintro r y ⟨rfl, rfl⟩)
  go_ret
  exact ⟨rfl, rfl⟩
theorem agLast_any (H : PaAt w p g tk wel fen free sh st c) (O : OnAg a op go free sh pl) {i : Nat} (hi : i < 3) (hg : g i = (a.fl i).base) :
    Calls Tryz.prog 88 #[ptrTo p, .int .i64 i] w fun r w' => r = .returned (.int .i64 ((a.fl i).base + (a.fl i).kept.length : Nat)) ∧ ∃ n, w' = w.drewN n := by
  have hL := lastA_any H.ks.blk (H.ks.an (i * 3) (by omega)) (H.ks.shs (i * 3) (by omega))
  rw [O.kp i hi, show 4 + i * 3 * 2 = 4 + i * 6 by omega] at hL
  have hm := keptL_last (a.fl i).base (a.fl i).kept (pl i) (O.pn i hi)
  obtain ⟨m, fb, hm, hL⟩ : ∃ (m : Nat) (fb : Bool), max m (a.fl i).base = (a.fl i).base + (a.fl i).kept.length ∧ Calls Tryz.prog 129 #[.pointer (some ⟨p, 4 + i * 6, none⟩)] w fun e w' => e = .returned (.tuple #[.int .i64 m, .bool fb]) ∧ ∃ n, w' = w.drewN n := by
    cases hq : (keptL (a.fl i).base (a.fl i).kept (pl i)).getLast? with
    | none => rw [hq] at hL hm; exact ⟨0, false, hm, hL⟩
    | some x => rw [hq] at hL hm; exact ⟨x.1, true, hm, hL⟩
  have cg : w.cell? ⟨p, 1 + i, none⟩ = some (.int .i64 (g i)) := by rw [blk_cell H.ks.blk, H.ks.ag i hi]
  rw [hg] at cg
  obtain ⟨n, hn⟩ : ∃ n, n = (a.fl i).base + (a.fl i).kept.length := ⟨_, rfl⟩
  rw [← hn] at hm ⊢
  obtain ⟨b, hb⟩ : ∃ b, b = (a.fl i).base := ⟨_, rfl⟩
  rw [← hb] at hm cg
  have hmI : max (m : Int) (b : Int) = (n : Int) := by omega
  have HL := hide hL
  have hi0 : (0 : Int) ≤ (i : Int) := by omega
  have hi3 : (i : Int) < 3 := by omega
  clear H O hL hn hb hm hg
  unfold ptrTo
  go_enter Tryz.func88, Tryz.ntmps88
  go_wp2_with (go_at_call 129; refine (unhide HL).mono ?_; rintro r y ⟨rfl, q, rfl⟩)
  go_ret
  exact ⟨by first | rfl | simp [hmI], q, rfl⟩
theorem strClone_any (s : ByteArray) (w : World) (hs : s.size ≤ 1000) : Calls Tryz.prog 91 #[.string s] w fun r w' => r = .returned (.string s) ∧ Below w.heap.size w w' := by
  have HC := hide (Tryz.stringslite_Clone s w (by omega))
  go_enter Tryz.func91, Tryz.ntmps91
  go_wp2_with (go_at_call 134; refine (unhide HC).mono ?_; rintro r y ⟨rfl, hy⟩)
  go_ret
  exact ⟨rfl, hy⟩
end
end Go.Proofs.YtamafdcnbcoegaaGreat
namespace Go.Proofs.YtamafdcnbcoegaaGreat
open Go.RowKit

theorem RowO.init {w : World} {e : TypeId} {n g o cap : Nat} {xs : List Value} (h : RowO w e 1 (.slice (some ⟨g, o, none⟩) (n + 1) cap) (n + 1) xs) : RowO w e 1 (.slice (some ⟨g, o, none⟩) n cap) n (xs.take n) := by
  obtain ⟨h1, ⟨h2, _⟩ | ⟨g', o', cap', cur, h2, hh, hn, hc, hs, ht⟩⟩ := h
  · cases h2
  · injection h2 with h2 _ h3
    injection h2 with h2
    injection h2 with h2 h4
    subst h2 h3 h4
    refine ⟨by simp; omega, .inr ⟨g, o, cap, cur, rfl, hh, by omega, hc, hs, ?_⟩⟩
    rw [← ht, List.take_take]
    congr 1
    omega
section
variable {w x y : World} {p : Nat} {g : Nat → Nat} {tk : Nat} {wel fen : Bool} {free : List Nat} {sh : Nat → List (Nat × Value)} {st st2 : Mod.Stv} {c : Av} {a : Mod.Ag} {op : Nat} {pl : Nat → List Nat}
/-- The store has written. -/
theorem paStep_store (H : PaAt w p g tk wel fen free sh st c) {uv' : Value} (k1 : StAt y c.s c.dp st2 c.dlv uv') (k2 : Loc w c.duv uv') (k3 : Far (StU c.s c.dp c.dlv c.duv) w y) (hl : st2.dk.bytes.length = 1664) : PaStep w y p g tk wel fen free sh st2 c := by
  refine ⟨{ c with duv := uv' }, ⟨H.ks.far k3 (fun k hk h => H.sep k hk h), k1, H.rl.far k3 (fun g hg h => (H.sepr g hg).2 h), hl⟩, k3.mono (fun k _ h => .inr (.inl h)), ?_, rfl, rfl⟩
  have hwz := k3.size
  rintro k (hk | (rfl | rfl | hk | hk) | hk)
  · exact .inl (.inl hk)
  · exact .inl (.inr (.inl (.inl rfl)))
  · exact .inl (.inr (.inl (.inr (.inl rfl))))
  · exact .inl (.inr (.inl (.inr (.inr (.inl hk)))))
  · rcases k2 with h | h | ⟨g, h, hg⟩
    · rw [h] at hk; cases hk
    · exact .inl (.inr (.inl (.inr (.inr (.inr (by rw [← h]; exact hk))))))
    · rw [h] at hk; cases hk; exact .inr hg
  · exact .inl (.inr (.inr hk))
theorem paAfter {z : World} {c1 : Av} (F : Far (PaU p c) w z) (N : ∀ k, PaU p c1 k → PaU p c k ∨ w.heap.size ≤ k) (t1 : c1.s = c.s) (t2 : c1.rv = c.rv) (h : PaStep z y p g tk wel fen free sh st c1) : PaStep w y p g tk wel fen free sh st c := by
  obtain ⟨c', h1, h2, h3, h4, h5⟩ := h
  refine ⟨c', h1, F.trans h2 (fun k hk hu => (N k hu).elim id (fun h => by omega)), fun k hk => ?_, h4.trans t1, h5.trans t2⟩
  rcases h3 k hk with h | h
  · exact N k h
  · exact .inr (Nat.le_trans F.size h)
theorem putRecord_len {st : Mod.Stv} (n i q : Nat) (b : List UInt8) (hb : b.length ≤ 20) (h : 64 * (2 + n) + 64 ≤ st.dk.bytes.length) : (st.putRecord n i q b).2.dk.bytes.length = st.dk.bytes.length := by
  unfold Mod.Stv.putRecord Mod.Dk.put
  simp only
  split
  · rfl
  · split
    · rfl
    · simp only
      exact Mod.length_setSec (Mod.length_sealB _ _ (by rw [Mod.length_recIn]; omega)) h
end
end Go.Proofs.YtamafdcnbcoegaaGreat
