/-
  P3, courierlaw.Codes: for every script the law returns true, and what it was handed reads as it did.
-/
import Derived.Test.YtamafdcnbcoegaaGreatH15
import Derived.ProofKit
import Derived.SizedLaws
import Derived.OpenShut
import Derived.ShutString
import Derived.ChangeOld
import Derived.Lib.SmallJoins
import Derived.Deep.Slices
namespace Go.Proofs.YtamafdcnbcoegaaGreat
open Go.ChangeShapes Go.WideShapes Go.ChangeAt Go.RowKit

theorem Tryz.own : ownKnob Tryz.prog.godebug = none := by kernel_rfl
theorem Tryz.laidOut : laidOutB Tryz.prog = true := by kernel_rfl

set_option maxRecDepth 100000 in
set_option maxHeartbeats 1000000 in
theorem codes_any (ad : Option Addr) (len cap : Nat) (w : World) (z : len ≤ 2000000000000) (h : 0 < len → ∃ b0 off, ad = some ⟨b0, off, none⟩ ∧ b0 < w.heap.size ∧ ∀ i, i < len → OpAt w b0 (off + i * 10)) :
    Calls Tryz.prog 3 #[.slice ad len cap] w fun r w' => r = .returned (.bool true) ∧ Below w.heap.size w w' := by
  have HU := fun w1 (hb : Below w.heap.size w w1) => hide (upTo_any ad len cap w1 z (fun h0 => by
    obtain ⟨b0, off, e, hlt, ho⟩ := h h0
    refine ⟨b0, off, e, Nat.lt_of_lt_of_le hlt hb.size, fun i hi => ?_⟩
    obtain ⟨kd, nn, ii, s, kp, k, e, st, q, b, zs, zb, hc⟩ := ho i hi
    exact ⟨kd, nn, ii, s, kp, k, e, st, q, b, zs, zb, fun j hj => (hb.cell (p := ⟨b0, off + i * 10 + j, none⟩) hlt).trans (hc j hj)⟩))
  clear h
  go_enter Tryz.func3, Tryz.ntmps3
  go_wp2_with (first | (go_at_call 14; refine (coded_head _).mono ?_; rintro r w1 ⟨rfl, hb1⟩; have HB1 := hide hb1; have HU1 := HU _ hb1; clear hb1) | (go_at_call 15; refine (unhide HU1).mono ?_; rintro r w2 ⟨rfl, hb2⟩))
  go_ret
  exact ⟨rfl, (unhide HB1).trans (hb2.mono (unhide HB1).size)⟩

theorem opCells : Tryz.prog.cellsOf 86 = 10 := by kernel_rfl
theorem opBytes : Tryz.prog.bytesOf 86 = 96 := by kernel_rfl
theorem frCells : Tryz.prog.cellsOf 41 = 5 := by kernel_rfl
theorem intCells : Tryz.prog.cellsOf 3 = 1 := by kernel_rfl
theorem u64Cells : Tryz.prog.cellsOf 27 = 1 := by kernel_rfl
theorem strCells : Tryz.prog.cellsOf 9 = 1 := by kernel_rfl

theorem weights_all {H : Type} {P : Program} {e : TypeId} : ∀ {l : List (DataW H)} {d : DataW H}, d ∈ l → ∀ n ∈ d.weights P e, n ∈ DataW.weightsAll P e l
  | d' :: r, d, hd, n, hn => by
    simp only [DataW.weightsAll, List.mem_append]
    rcases List.mem_cons.1 hd with rfl | h
    · exact Or.inl hn
    · exact Or.inr (weights_all h n hn)

set_option maxRecDepth 100000 in
/-- A step among the cells that came in. -/
theorem open_op {H : Type} {enc : TypeId × Value → H} {w : World} {base : Nat} {spare : Nat → Bool} {held : Bool} {fuel : Nat} {cs : List Value} {y : DataW H × List MemPlace}
    (h : DataW.trod enc Tryz.prog w base spare held fuel 86 cs = some y) (hw : ∀ n ∈ y.1.weights Tryz.prog 86, n ≤ reachBytes) :
    ∃ (kd nn i : Int) (s : ByteArray) (kp k e st q : Int) (b : ByteArray), cs = [.int .i64 kd, .int .i64 nn, .int .i64 i, .string s, .int .u64 kp, .int .i64 k, .int .i64 e, .int .i64 st, .int .i64 q, .string b] ∧ s.size ≤ reachBytes ∧ b.size ≤ reachBytes := by
  obtain ⟨xs, n, _, rfl, hl, hlen, hx⟩ := DataW.trod_struct Tryz.underlying86 h
  rw [opCells] at hl
  match cs, hl, xs, hlen with
  | [d0, d1, d2, d3, d4, d5, d6, d7, d8, d9], _, [y0, y1, y2, y3, y4, y5], _ =>
    have h0 := hx 0 _ rfl
    have h1 := hx 1 _ rfl
    have h2 := hx 2 _ rfl
    have h3 := hx 3 _ rfl
    have h4 := hx 4 _ rfl
    have h5 := hx 5 _ rfl
    simp [intCells, strCells, u64Cells, frCells] at h0 h1 h2 h3 h4 h5
    obtain ⟨kd, e0, _, _⟩ := DataW.trod_int Tryz.underlying3 h0
    obtain ⟨nn, e1, _, _⟩ := DataW.trod_int Tryz.underlying3 h1
    obtain ⟨i, e2, _, _⟩ := DataW.trod_int Tryz.underlying3 h2
    obtain ⟨s, e3, x3, _⟩ := DataW.trod_string Tryz.underlying9 h3
    obtain ⟨kp, e4, _, _⟩ := DataW.trod_int Tryz.underlying27 h4
    obtain ⟨zs, n2, _, x5, _, hlen2, hz⟩ := DataW.trod_struct Tryz.underlying41 h5
    match zs, hlen2 with
    | [z0, z1, z2, z3, z4], _ =>
      have g0 := hz 0 _ rfl
      have g1 := hz 1 _ rfl
      have g2 := hz 2 _ rfl
      have g3 := hz 3 _ rfl
      have g4 := hz 4 _ rfl
      simp [intCells, strCells] at g0 g1 g2 g3 g4
      obtain ⟨k, e5, _, _⟩ := DataW.trod_int Tryz.underlying3 g0
      obtain ⟨e, e6, _, _⟩ := DataW.trod_int Tryz.underlying3 g1
      obtain ⟨st, e7, _, _⟩ := DataW.trod_int Tryz.underlying3 g2
      obtain ⟨q, e8, _, _⟩ := DataW.trod_int Tryz.underlying3 g3
      obtain ⟨b, e9, x9, _⟩ := DataW.trod_string Tryz.underlying9 g4
      simp at e0 e1 e2 e3 e4 e5 e6 e7 e8 e9
      subst e0 e1 e2 e3 e4 e5 e6 e7 e8 e9
      subst x9 x5 x3
      refine ⟨kd, nn, i, s, kp, k, e, st, q, b, rfl, ?_, ?_⟩
      · have := hw s.data.toList.length (by
          simp only [DataW.weights, Tryz.underlying86]
          exact DataW.weights_mem_each (j := 3) (d := .lit (.string s.data.toList)) rfl rfl _ (by simp [DataW.weights]))
        simpa using this
      · have := hw b.data.toList.length (by
          simp only [DataW.weights, Tryz.underlying86]
          refine DataW.weights_mem_each (j := 5) (d := .agg ([z0, z1, z2, z3, (.lit (.string b.data.toList), [])].map (·.1))) rfl rfl _ ?_
          simp only [DataW.weights, Tryz.underlying41]
          exact DataW.weights_mem_each (j := 4) (d := .lit (.string b.data.toList)) rfl rfl _ (by simp [DataW.weights]))
        simpa using this
theorem add_plain (b off k : Nat) : (⟨b, off, none⟩ : Addr).add k = ⟨b, off + k, none⟩ := by
  unfold Addr.add
  split
  · rename_i h; rw [h]; rfl
  · rfl

set_option maxRecDepth 100000 in
/-- The script that came in. -/
theorem open_ops {H : Type} {enc : TypeId × Value → H} {w : World} {base : Nat} {spare : Nat → Bool} {held : Bool} {v : Value} {d : DataW H} {p : List MemPlace}
    (h : DataW.Trod enc Tryz.prog w base spare held 22 v d p) (hv : ∃ a len cap, v = .slice a len cap) (hw : ∀ n ∈ d.weights Tryz.prog 22, n ≤ reachBytes) :
    ∃ ad len cap, v = .slice ad len cap ∧ len ≤ 2000000000000 ∧ (0 < len → ∃ b0 off, ad = some ⟨b0, off, none⟩ ∧ b0 < w.heap.size ∧ ∀ i, i < len → OpAt w b0 (off + i * 10)) := by
  obtain ⟨a0, l0, c0, rfl⟩ := hv
  obtain ⟨fuel, hf⟩ := h
  have hcs : (Value.slice a0 l0 c0).cells.toList = [.slice a0 l0 c0] := rfl
  rw [hcs] at hf
  rcases Deep.open_slice Tryz.underlying22 hf with ⟨e, _⟩ | ⟨a, len, cap, m, n, D, Pl, e, _, hl, _, hm, hd, hi⟩
  · injection e with e
    injection e with e1 e2 e3
    subst e1 e2 e3
    exact ⟨none, 0, 0, rfl, by omega, fun h => absurd h (by omega)⟩
  · injection e with e
    injection e with e1 e2 e3
    subst e1 e2 e3
    injection hd with hd _
    subst hd
    have hlm : l0 ≤ m := by rw [hm]; split <;> omega
    have hsz : l0 * 96 ≤ reachBytes := by
      have := hw ((((List.range l0).map D).length + ((List.range (m - l0)).map fun j => D (l0 + j)).length) * Tryz.prog.bytesOf 86) (by simp [DataW.weights, Tryz.underlying22])
      rw [opBytes] at this
      simp at this
      omega
    refine ⟨some a, l0, c0, rfl, by unfold reachBytes at hsz; omega, fun h0 => ?_⟩
    rw [opCells] at hi
    obtain ⟨b0, off, sp⟩ := a
    have hsp : sp = none ∧ b0 < w.heap.size := by
      obtain ⟨cs', h1, h2⟩ := hi 0 (by omega)
      obtain ⟨_, hlen, hc⟩ := World.cells?_some h1
      have := hc 0 (by omega)
      rw [List.getElem?_eq_getElem (by omega)] at this
      simp only [Addr.add, Nat.zero_mul, if_true] at this
      unfold World.cell? at this
      simp only at this
      split at this
      · rename_i hb
        refine ⟨?_, lt_of_block hb⟩
        cases sp with
        | none => rfl
        | some _ => simp at this
      · cases this
    obtain ⟨rfl, hlt⟩ := hsp
    refine ⟨b0, off, rfl, hlt, fun i hil => ?_⟩
    obtain ⟨cs', h1, h2⟩ := hi i (by omega)
    obtain ⟨_, hlen, hc⟩ := World.cells?_some h1
    obtain ⟨kd, nn, ii, s, kp, k, e, st, q, b, rfl, z1, z2⟩ := open_op h2 (fun x hx => hw x (by
      simp only [DataW.weights, Tryz.underlying22, List.mem_cons, List.mem_append]
      exact .inr (.inl (weights_all (List.mem_map.2 ⟨i, by simpa using hil, rfl⟩) x hx))))
    unfold reachBytes at z1 z2
    refine ⟨kd, nn, ii, s, kp, k, e, st, q, b, by omega, by omega, fun j hj => ?_⟩
    have := hc j hj
    rw [add_plain, add_plain] at this
    rw [this]
    simp

set_option maxRecDepth 100000 in
theorem codes_lifted (os : Os) (started : os.Started) (H : Type) (enc : TypeId × Value → H) :
    ReturnsInHanded {} Tryz.checked os 3 .any (Rows.codesSpec.pre6 enc Tryz.prog Tryz.f3 Rows.codesRow.domain false) (Rows.codesSpec.post enc Tryz.prog Tryz.f3 false true false false) := by
  refine returnsInHanded_of_change_sized (C := Tryz.checked) Tryz.own started (by kernel_rfl) Tryz.func3
    (ChangeSpec.witness6 (enc := enc) (C := Tryz.checked) false ⟨#[], #[.slice none 0 0], []⟩ 8 (by kernel_rfl) (by kernel_rfl) (by kernel_rfl) (by kernel_rfl)) ?_
  intro W base args ds gs before hval0 hW hcnd hsz0 hholds
  have hval : ∀ (j : Nat) t v, Tryz.f3.params[j]? = some t → args[j]? = some v → Value.okWide Tryz.prog W .any base t v := hval0
  have hsz : (DataW.weightsEach Tryz.prog (Tryz.f3.params.toList ++ Rows.codesSpec.plain.varTypes Tryz.prog) (ds ++ gs)).all (· ≤ reachBytes) = true := hsz0
  have hW' := hW
  obtain ⟨p, q, hA0, hV, rfl, hfz, hnd⟩ := hW
  have hA : DataW.TrodAll enc Tryz.prog W 0 (fun _ => true) true Tryz.f3.params.toList args.toList ds p := hA0
  rw [Tryz.params3] at hA hval hsz
  obtain ⟨v0, vs0, d0, ds0, p0, q0, hargs, rfl, rfl, h0, r0⟩ := trodAll_cons hA
  obtain ⟨rfl, rfl, rfl⟩ := trodAll_nil r0
  obtain rfl : args = #[v0] := by cases args; simp_all
  obtain ⟨rfl, rfl⟩ := trodVars_none hV
  have k0 := h0
  have lt0 : ∀ x ∈ p0, x.block < W.heap.size := by obtain ⟨m, hm⟩ := k0; exact DataW.trod_lt m _ _ _ hm
  obtain ⟨ad, len, cap, rfl, hlen, hops⟩ := open_ops h0 (okWide_slice Tryz.underlying22 (hval 0 22 v0 rfl rfl)) (fun n hn => by
    have := List.all_eq_true.1 hsz n (DataW.weights_mem_each (j := 0) rfl rfl n hn)
    simpa using this)
  clear hA0 hval0 hsz0
  refine (codes_any ad len cap W hlen hops).mono fun e W' ⟨he, bel⟩ => ?_
  subst he
  exact ⟨_, rfl, _, _, _, [], _, [], hW', trodAll_mk1 (shut_bool Tryz.underlying4 _), (trodAll_cons_mk (Below.trod Tryz.laidOut (by kernel_rfl) (of_decide_eq_true (by kernel_rfl)) k0 bel lt0) trodAll_mk0), rfl, bel.frame _, fun h => by cases h⟩

/-- P3: every Encode and Decode of a script, and all lists stay their owners'. -/
theorem codes_holds : Rows.CodesSaid :=
  OpenClaim.holds_of_wide 3 Tryz.f3 rfl rfl rfl rfl rfl rfl rfl ⟨rfl, rfl, rfl, rfl, rfl⟩ rfl rfl rfl rfl rfl (by kernel_rfl) Tryz.func3 (by kernel_rfl)
    (of_decide_eq_true (by kernel_rfl)) (by unfold Func.isWrapper; rw [if_neg (by decide +kernel)]; exact ⟨rfl, rfl⟩)
    (fun os started H enc _ => codes_lifted os started H enc)
end Go.Proofs.YtamafdcnbcoegaaGreat
