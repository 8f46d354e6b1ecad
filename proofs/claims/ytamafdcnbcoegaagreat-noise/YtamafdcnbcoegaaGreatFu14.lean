/-
  Part 14 of a proof: N7, V6, N8, CodesProof, N9.
-/
import Derived.Deep.CutRange
import Derived.ProofKit
import Derived.SizedLaws
import Derived.OpenShut
import Derived.ShutString
import Derived.ChangeOld
import Derived.Lib.SmallJoins
import Derived.Deep.Slices
import Derived.Test.YtamafdcnbcoegaaGreatFu13
namespace Go.Proofs.YtamafdcnbcoegaaGreat
open Go.RowKit
/-- The agent when so many records have been taken, of these streams. -/
def takeN (xs : Nat → Nat) : Nat → Mod.Ag
  | 0 => { epoch := 1, ticks := 0, welcome := false, fenced := false, fl := fun _ => { base := 0, kept := [], held := [] } }
  | i + 1 => (takeN xs i).submit (xs i) (digB i)
theorem room_submit (a : Mod.Ag) {s : Nat} (hs : s < 3) (b : ByteArray) : (a.submit s b).room = a.room + 1 := by
  have e : (a.submit s b).room + (a.fl s).kept.length = a.room + ((a.fl s).kept ++ [(b, 0)]).length := room_upd (a := a) hs { a.fl s with kept := (a.fl s).kept ++ [(b, 0)] }
  rw [List.length_append, List.length_singleton] at e
  omega
theorem takeN_room {xs : Nat → Nat} (hx : ∀ i, xs i < 3) : ∀ i, (takeN xs i).room = i
  | 0 => rfl
  | i + 1 => by rw [takeN, room_submit _ (hx i), takeN_room hx i]
theorem takeN_flags (xs : Nat → Nat) : ∀ i, (takeN xs i).epoch = 1 ∧ (takeN xs i).welcome = false ∧ (takeN xs i).fenced = false ∧ ∀ t, ((takeN xs i).fl t).base = 0
  | 0 => ⟨rfl, rfl, rfl, fun _ => rfl⟩
  | i + 1 => by
    obtain ⟨h1, h2, h3, h4⟩ := takeN_flags xs i
    refine ⟨h1, h2, h3, fun t => ?_⟩
    rw [takeN]
    unfold Mod.Ag.submit Mod.upd
    simp only
    split
    · rename_i e
      exact h4 _
    · exact h4 t
theorem takeN_spool (xs : Nat → Nat) (i s : Nat) : (takeN xs (i + 1)).spool s = if s = xs i then (takeN xs i).spool s ++ [digB i] else (takeN xs i).spool s := by
  rw [takeN]
  unfold Mod.Ag.submit Mod.upd Mod.Ag.spool
  simp only
  split
  · rename_i e
    subst e
    simp
  · rfl
/-- Ticks of an agent that isn't welcome. -/
def tickN (a : Mod.Ag) : Nat → Mod.Ag
  | 0 => a
  | m + 1 => (tickN a m).tick.1
theorem tickN_is {a : Mod.Ag} (hw : a.welcome = false) : ∀ m, tickN a m = { a with ticks := a.ticks + m }
  | 0 => rfl
  | m + 1 => by
    rw [tickN, tickN_is hw m]
    simp [Mod.Ag.tick, hw, Nat.add_assoc]
    split <;> rfl
end Go.Proofs.YtamafdcnbcoegaaGreat
namespace Go.Proofs.YtamafdcnbcoegaaGreat
open Go.RowKit

theorem agGood_zero (n : Nat) : AgGood n ag0 := ⟨by simp [ag0], by simp [ag0], by simp [ag0], fun s hs x hx => by simp [ag0] at hx⟩

end Go.Proofs.YtamafdcnbcoegaaGreat
namespace Go.Proofs.YtamafdcnbcoegaaGreat
open Go.RowKit
/-- Numbers that came in. -/
def IntsIn (w : World) (ad : Option Addr) (len : Nat) : Prop := 0 < len → ∃ b0 off, ad = some ⟨b0, off, none⟩ ∧ b0 < w.heap.size ∧ ∀ i, i < len → ∃ c : Int, (-9223372036854775808 ≤ c ∧ c ≤ 9223372036854775807) ∧ w.cell? ⟨b0, off + i, none⟩ = some (.int .i64 c)
theorem IntsIn.below {w x : World} {ad : Option Addr} {len : Nat} (h : IntsIn w ad len) (hb : Below w.heap.size w x) : IntsIn x ad len := fun h0 => by
  obtain ⟨b0, off, e, hl, hc⟩ := h h0
  exact ⟨b0, off, e, Nat.lt_of_lt_of_le hl hb.size, fun i hi => by
    obtain ⟨c, h1, h2⟩ := hc i hi
    exact ⟨c, h1, (hb.cell (p := ⟨b0, off + i, none⟩) hl).trans h2⟩⟩
/-- Which streams they speak of. -/
noncomputable def streamAt (w : World) (ad : Option Addr) (len i : Nat) : Nat :=
  if i < len then match ad with
    | some ⟨b0, off, none⟩ => match w.cell? ⟨b0, off + i, none⟩ with
      | some (.int .i64 c) => pickN c 3
      | _ => 0
    | _ => 0
  else 0
theorem streamAt_lt (w : World) (ad : Option Addr) (len i : Nat) : streamAt w ad len i < 3 := by
  unfold streamAt
  repeat' split
  all_goals first | omega | exact pickN_lt _ (by omega)
/-- In the midst of Full. -/
structure FullAt {top : Nat} (C : AgentC top) (D : SinkC) (B i : Nat) (x : World) (va vs g : Nat) (xs : Nat → Nat) (wv : Nat → Value) : Prop where
  ends : Ends C D B i x va vs (takeN xs i) sk00 (WantU g wv)
  want : WantAt B x g wv (fun s => (takeN xs i).spool s)
theorem spool_len {a : Mod.Ag} {s : Nat} (hs : s < 3) : (a.spool s).length ≤ a.room := by
  have := room_le (a := a) hs
  simpa [Mod.Ag.spool] using this
section
variable {top : Nat} {C : AgentC top} {D : SinkC} {B i : Nat} {x y : World} {va vs g : Nat} {xs : Nat → Nat} {wv : Nat → Value}
theorem refuses_ok {a : Mod.Ag} {s n : Nat} (hs : s < 3) (hn : n ≤ 20) (hr : a.room < 24) : a.refuses s n = 0 := by
  unfold Mod.Ag.refuses
  rw [if_neg (by omega), if_neg (by omega), if_neg (by omega)]
theorem submits_ok {a : Mod.Ag} {s : Nat} {b : ByteArray} (hs : s < 3) (hn : b.size ≤ 20) (hr : a.room < 24) : agSubmits a s b = a.submit s b := by
  unfold agSubmits
  rw [if_pos (refuses_ok hs hn hr)]
  rfl
theorem submits_no {a : Mod.Ag} {s : Int} {b : ByteArray} (h : a.refuses s b.size ≠ 0) : agSubmits a s b = a := by
  unfold agSubmits
  rw [if_neg h]
end
theorem Ends.write {top : Nat} {C : AgentC top} {D : SinkC} {B N : Nat} {x y : World} {va vs : Nat} {a : Mod.Ag} {k : Mod.Sk} {G E : Nat → Prop} (h : Ends C D B N x va vs a k G) (hF : Far E x y) (hE : ∀ j, E j → G j ∨ j < B) : Ends C D B N y va vs a k (fun j => G j ∨ (x.heap.size ≤ j ∧ j < y.heap.size)) := by
  have h' := h.far hF hE
  obtain ⟨U, V, h1, h2, h3, h4, h5, h6⟩ := h.all
  have hu := C.lt h1
  have hv := D.lt h2
  refine ⟨⟨U, V, C.far h1 hF (fun j hj e => ?_), D.far h2 hF (fun j hj e => ?_), h3, h4, h5, fun j hj => ?_⟩, h.ga, h.gk, h'.bx⟩
  · rcases hE j e with e | e
    · exact (h6 j e).2.1 hj
    · have := h4 j hj; omega
  · rcases hE j e with e | e
    · exact (h6 j e).2.2 hj
    · have := h5 j hj; omega
  · rcases hj with hj | hj
    · exact ⟨Nat.lt_of_lt_of_le (h6 j hj).1 hF.size, (h6 j hj).2⟩
    · exact ⟨hj.2, fun e => by have := hu j e; omega, fun e => by have := hv j e; omega⟩
theorem FullAt.below {top : Nat} {C : AgentC top} {D : SinkC} {B i : Nat} {x y : World} {va vs g : Nat} {xs : Nat → Nat} {wv : Nat → Value} (h : FullAt C D B i x va vs g xs wv) (hb : Below x.heap.size x y) : FullAt C D B i y va vs g xs wv :=
  ⟨h.ends.below hb, h.want.far (E := fun _ => False) (far_below hb) (fun _ _ e => e)⟩
theorem FullAt.take {top : Nat} {C : AgentC top} {D : SinkC} {B i : Nat} {x : World} {va vs g : Nat} {xs : Nat → Nat} {wv : Nat → Value} (h : FullAt C D B i x va vs g xs wv) (hx : ∀ i, xs i < 3) (hi : i < 24) (ht : i < top) :
    Calls Tryz.prog 21 #[ptrTo va, .int .i64 (xs i : Nat), .string (digB i)] x fun r y => r = .returned (.int .i64 0) ∧ Ends C D B (i + 1) y va vs (takeN xs (i + 1)) sk00 (WantU g wv) ∧ WantAt B y g wv (fun s => (takeN xs i).spool s) ∧ Below B x y := by
  have hs : (digB i).size ≤ 20 := by have := digB_size (n := i) (by omega); omega
  have hr : (takeN xs i).room < 24 := by rw [takeN_room hx]; exact hi
  have h0 := refuses_ok (a := takeN xs i) (hx i) hs hr
  refine (h.ends.submit ht (xs i : Nat) (digB i)).mono ?_
  rintro r y ⟨rfl, k1, k2⟩
  rw [submits_ok (hx i) hs hr] at k1
  exact ⟨by rw [h0], k1, h.want.far k2 (fun j hj e => e.2 hj), k2.bel h.ends.bx⟩
/-- A text more on the list. -/
theorem full_app {top : Nat} {C : AgentC top} {D : SinkC} {B i : Nat} {x z : World} {va vs g : Nat} {xs : Nat → Nat} {wv : Nat → Value} {v' : Value} (hE : Ends C D B (i + 1) x va vs (takeN xs (i + 1)) sk00 (WantU g wv)) (hW : WantAt B x g wv (fun s => (takeN xs i).spool s)) (hx : ∀ i, xs i < 3)
    (hF : Far (fun j => (wv (xs i)).ownBlock = some j) x z) (hr : z.ownsRow B 9 1 v' (((takeN xs i).spool (xs i)).length + 1) (strs ((takeN xs i).spool (xs i)) ++ [.string (digB i)])) (hl : ∀ j, v'.ownBlock = some j → (wv (xs i)).ownBlock = some j ∨ x.heap.size ≤ j) :
    FullAt C D B (i + 1) (z.setCell ⟨g, xs i, none⟩ v') va vs g xs (fun t => if t = xs i then v' else wv t) := by
  have hs := hx i
  have hset := far_set z g (xs i) v'
  have hFF : Far (fun j => (wv (xs i)).ownBlock = some j ∨ j = g) x (z.setCell ⟨g, xs i, none⟩ v') := (hF.mono (fun _ _ e => .inl e)).trans hset (fun _ _ e => .inr e)
  have hW' := hW.app hs hF hr hl
  refine ⟨(hE.write hFF (fun j e => .inl (e.elim (fun e => .inr ⟨xs i, hs, e⟩) (fun e => .inl e)))).mono (fun j hj => ?_) (Nat.le_refl _), ?_⟩
  · have h2 := (hW'.lt j hj).2
    exact (wantU_app hl hs j hj).imp id (fun h => ⟨h, h2⟩)
  · have e : (fun t => if t = xs i then (takeN xs i).spool (xs i) ++ [digB i] else (takeN xs i).spool t) = fun s => (takeN xs (i + 1)).spool s := by
      funext t
      rw [takeN_spool]
      split
      · rename_i e; rw [e]
      · rfl
    rw [← e]
    exact hW'
theorem Ends.refused {top : Nat} {C : AgentC top} {D : SinkC} {B N : Nat} {x : World} {va vs : Nat} {a : Mod.Ag} {k : Mod.Sk} {G : Nat → Prop} (h : Ends C D B N x va vs a k G) (hN : N < top) (i : Int) (s : ByteArray) (e : Int) (he : a.refuses i s.size = e) (h0 : e ≠ 0) :
    Calls Tryz.prog 21 #[ptrTo va, .int .i64 i, .string s] x fun r y => r = .returned (.int .i64 e) ∧ Ends C D B (N + 1) y va vs a k G ∧ Same B G x y := by
  refine (h.submit hN i s).mono ?_
  rintro r y ⟨rfl, k1, k2⟩
  rw [submits_no (by rw [he]; exact h0)] at k1
  exact ⟨by rw [he], k1, k2⟩
theorem refuses_full {a : Mod.Ag} {i : Int} {n : Nat} (hi : 0 ≤ i ∧ i < 3) (hn : n ≤ 20) (hr : 24 ≤ a.room) : a.refuses i n = 7 := by
  unfold Mod.Ag.refuses
  rw [if_neg (by omega), if_neg (by omega), if_pos hr]
theorem refuses_stream {a : Mod.Ag} {i : Int} {n : Nat} (hi : 3 ≤ i) : a.refuses i n = 5 := by
  unfold Mod.Ag.refuses
  rw [if_pos (.inr hi)]
theorem refuses_long {a : Mod.Ag} {i : Int} {n : Nat} (hi : 0 ≤ i ∧ i < 3) (hn : 20 < n) : a.refuses i n = 6 := by
  unfold Mod.Ag.refuses
  rw [if_neg (by omega), if_pos hn]
/-- So many exchanges. -/
def exN (a : Mod.Ag) (k : Mod.Sk) : Nat → Mod.Ag × Mod.Sk
  | 0 => (a, k)
  | j + 1 => ((exchM (exN a k j).1 (exN a k j).2).1, (exchM (exN a k j).1 (exN a k j).2).2.1)
theorem exN_succ (a : Mod.Ag) (k : Mod.Sk) (j : Nat) : exN a k (j + 1) = ((exchM (exN a k j).1 (exN a k j).2).1, (exchM (exN a k j).1 (exN a k j).2).2.1) := rfl
theorem exN_room {a : Mod.Ag} {N : Nat} (G : AgGood N a) (hf : a.fenced = false) (hw : a.welcome = false) (hb : ∀ t, t < 3 → (a.fl t).base = 0) (h0 : 0 < a.room) : (exN a sk00 3).1.room < a.room := by
  have := full_room G hf hw hb h0
  rw [exN_succ, exN_succ, exN_succ]
  exact this
theorem exN_full {a : Mod.Ag} {N m : Nat} (G : AgGood N (tickN a m)) (hf : a.fenced = false) (hw : a.welcome = false) (hb : ∀ t, (a.fl t).base = 0) (hr : a.room = 24) : (exN (tickN a m) sk00 3).1.room < 24 := by
  have e := tickN_is hw m
  have := exN_room G (by rw [e]; exact hf) (by rw [e]; exact hw) (by rw [e]; exact fun t _ => hb t) (by rw [e]; show 0 < a.room; omega)
  have h24 : (tickN a m).room = 24 := by rw [e]; exact hr
  rw [h24] at this
  exact this
set_option maxRecDepth 100000 in
set_option maxHeartbeats 8000000 in
theorem full_any {top : Nat} (C : AgentC top) (D : SinkC) (ht : 1000 ≤ top) (ad : Option Addr) (len cap : Nat) (n : Int) (w : World) (hlz : len ≤ 140737488355328) (hn : -9223372036854775808 ≤ n ∧ n ≤ 9223372036854775807) (h : IntsIn w ad len) :
    Calls Tryz.prog 12 #[.slice ad len cap, .int .i64 n] w fun r y => r = .returned (.bool true) ∧ Below w.heap.size w y := by
  obtain ⟨xs, hxs⟩ : ∃ xs, xs = streamAt w ad len := ⟨_, rfl⟩
  have hx3 : Hid (∀ i, xs i < 3) := by show ∀ i, _; intro i; rw [hxs]; exact streamAt_lt _ _ _ _
  have HI := hide h
  have HXS := hide hxs
  have HPK := fun y => hide (keepPick_any n 6 y hn (by omega) (by omega))
  have hm := pickN_lt n (n := 6) (by omega)
  generalize pickN n 6 = m at HPK hm
  clear h hxs hn
  go_enter Tryz.func12, Tryz.ntmps12
  go_upto_region 2 with (go_at_call 18; refine (keepAgent_any C _).mono ?_; rintro r x1 ⟨va, U, rfl, k1, k2, k3⟩; have HA := hide (And.intro k1 (And.intro k2 k3)); clear k1 k2 k3)
  go_upto_region 3 with (go_at_call 19; refine (keepSink_any D _).mono ?_; rintro r x2 ⟨vs, V, rfl, k1, k2, k3⟩; have HS := hide (And.intro k1 (And.intro k2 k3)); clear k1 k2 k3)
  unfold ptrTo at *
  go_upto_region 6 with fail
  refine wp_world (fun x => FullAt C D w.heap.size 0 x va vs x2.heap.size xs (fun _ => .slice none 0 0) ∧ Below w.heap.size w x) ?_ ?_
  · obtain ⟨a1, a2, a3⟩ := unhide HA
    obtain ⟨s1, s2, s3⟩ := unhide HS
    have hw1 := a2.size
    have hw2 := s2.size
    have hUl := C.lt a1
    have E0 : Ends C D w.heap.size 0 x2 va vs (takeN xs 0) sk00 (fun _ => False) :=
      ⟨⟨U, V, C.far a1 (E := fun _ => False) (far_below s2) (fun _ _ e => e), s1, fun j hj e => by have := hUl j hj; have := s3 j e; omega, a3, fun j hj => Nat.le_trans hw1 (s3 j hj), fun j hj => hj.elim⟩, agGood_zero 0, skGood_new, by omega⟩
    have hb := (Below.refl x2.heap.size x2).alloc (Nat.le_refl _) (.cells #[.slice none 0 0, .slice none 0 0, .slice none 0 0] 69)
    refine ⟨⟨(E0.more hb).mono (fun j hj => ?_) (Nat.le_refl _), want_new (by omega)⟩, ?_⟩
    · rcases hj with rfl | ⟨s, _, hj⟩
      · exact .inr ⟨Nat.le_refl _, by simp⟩
      · cases hj
    · exact (a2.trans (s2.mono hw1)).trans (hb.mono (by omega))
  obtain ⟨g, hg⟩ : ∃ g, g = x2.heap.size := ⟨_, rfl⟩
  rw [← hg]
  clear hg HA HS
  rintro x ⟨F0, B0⟩
  have HF0 := hide (And.intro F0 B0)
  clear F0 B0
  go_wp2
  go_loopw [8] (fun i wr => ∃ j : Nat, j ≤ 24 ∧ i = .int .i64 j ∧ ∃ wv, FullAt C D w.heap.size j wr va vs g xs wv ∧ Below w.heap.size w wr) (fun i _ => 24 - (intOf i).toNat)
  case atStart => exact ⟨0, by omega, rfl, _, (unhide HF0).1, (unhide HF0).2⟩
  case round =>
    obtain ⟨j, hj, rfl, wv, hF, hB⟩ := hrel
    clear HF0
    by_cases hlt : j < 24
    · have hIw := (unhide HI).below hB
      have hj24 : (j : Int) < 24 := by omega
      have HF := hide hF
      have HB := hide hB
      have HJ := hide hlt
      have hx := (unhide hx3) j
      have hXJ := hide (show xs j = streamAt w ad len j by rw [unhide HXS])
      obtain ⟨sx, hsx0⟩ : ∃ sx, sx = xs j := ⟨_, rfl⟩
      rw [← hsx0] at hx hXJ
      have HSX := hXJ
      have HSE := hide hsx0
      clear hsx0
      clear hF hB hlt
      go_upto_if 35 with fail
      go_cut [9] from 28 to 56 (fun v wx => v = .int .i64 sx ∧ wx = wr)
      case first =>
        by_cases hjl : j < len
        · obtain ⟨b0, off, rfl, hb0, hc⟩ := hIw (by omega)
          obtain ⟨c, hc1, hc2⟩ := hc j hjl
          have hcw : w.cell? ⟨b0, off + j, none⟩ = some (.int .i64 c) := by
            obtain ⟨b1, off1, e1, hb1, hw1⟩ := (unhide HI) (by omega)
            cases e1
            rw [← (unhide HB).cell (p := ⟨b0, off + j, none⟩) hb1]
            exact hc2
          have hsx : sx = pickN c 3 := by
            rw [unhide HSX]
            unfold streamAt
            rw [if_pos hjl]
            simp only [hcw]
          have HP := hide (keepPick_any c 3 wr hc1 (by omega) (by omega))
          rw [← hsx] at HP
          have hji : (j : Int) < (len : Int) := by omega
          have hj0 : (0 : Int) ≤ (j : Int) := by omega
          clear hc hcw hsx
          go_wp2_with (go_at_call 22; refine (unhide HP).mono ?_; rintro r y ⟨rfl, rfl⟩)
          go_meet
          exact ⟨rfl, rfl⟩
        · have hsx : sx = 0 := by
            rw [unhide HSX]
            unfold streamAt
            rw [if_neg hjl]
          have hji : ¬ (j : Int) < (len : Int) := by omega
          subst hsx
          go_wp2
          go_meet
          exact ⟨rfl, rfl⟩
      case rest =>
        obtain ⟨rfl, rfl⟩ := hcut
        have HDG := hide (digits_any j wc (by omega))
        obtain ⟨db, hdb⟩ : ∃ db, db = digB j := ⟨_, rfl⟩
        rw [← hdb] at HDG
        have HDB := hide hdb
        clear hdb
        go_upto_region 13 with (first
          | (go_at_call 23; refine (unhide HDG).mono ?_; rintro r y ⟨rfl, hy⟩; have HFY := hide ((unhide HF).below hy); have HBY := hide ((unhide HB).trans (hy.mono (unhide HB).size)); clear hy; have HSB := (unhide HFY).take (unhide hx3) (unhide HJ) (by have := unhide HJ; omega); rw [← unhide HSE, ← unhide HDB] at HSB; replace HSB := hide HSB)
          | (go_at_call 21; unfold ptrTo at HSB; refine (unhide HSB).mono ?_; rintro r y2 ⟨rfl, k1, k2, k3⟩; have HE2 := hide k1; have HW2 := hide k2; have HB2 := hide ((unhide HBY).trans k3); clear k1 k2 k3))
        go_upto_region 15 with fail
        have hx0 : (0 : Int) ≤ (sx : Int) := by omega
        have hx3i : (sx : Int) < 3 := by omega
        have hrow := (unhide HW2).row sx hx
        have hsl : ((takeN xs j).spool sx).length ≤ 24 := by
          have h1 := spool_len (a := takeN xs j) hx
          rw [takeN_room (unhide hx3)] at h1
          have := unhide HJ
          omega
        obtain ⟨n2, hn2⟩ : ∃ n2, n2 = ((takeN xs j).spool sx).length := ⟨_, rfl⟩
        obtain ⟨XS, hXS⟩ : ∃ XS, XS = strs ((takeN xs j).spool sx) := ⟨_, rfl⟩
        rw [← hn2, ← hXS] at hrow
        have hXl : XS.length = n2 := by rw [hXS, hn2, strs_length]
        rw [← hn2] at hsl
        obtain ⟨ad2, cap2, hwv, _⟩ := (own_rowO hrow).shape
        have hc := (unhide HW2).cell hx
        have hlt := (unhide HW2).lt
        have hgne := (unhide HW2).ne hx
        rw [hwv] at hrow hc hgne
        have hg2 := lt_of_block (unhide HW2).blk
        have hgb := (unhide HW2).gb
        have hBs := (unhide HE2).bx
        have hlvb : ∀ k, (Value.slice ad2 n2 cap2).ownBlock = some k → k < y2.heap.size := fun k hk => (World.ownsRow.lt hrow k hk).2
        have HR := hide hrow
        have HN := hide (And.intro hn2 (And.intro hXS hwv))
        have HBK := hide (unhide HW2).blk
        have hcell : ∀ z : World, z.heap[g]? = some (.cells #[wv 0, wv 1, wv 2] 69 (0, 0)) → z.cell? ⟨g, sx, none⟩ = some (.slice ad2 n2 cap2) := fun z hz => by rw [blk_cell hz, want_get hx, hwv]
        clear hrow hn2 hXS hwv hc hlt
        refine wp_region_foot (by kernel_rfl)
          [fun v _ => v = .int .i64 sx, fun v _ => v = .int .i64 sx, fun v _ => v = .pointer (some ⟨g, sx, none⟩), fun v _ => v = .slice ad2 n2 cap2, fun v _ => v = .int .i64 j, fun v _ => v = .string db, OneS y2.heap.size db, RowS y2.heap.size w.heap.size (.slice ad2 n2 cap2) XS db, fun v _ => v = .pointer (some ⟨g, sx, none⟩),
           fun _ z => ∃ wv2, FullAt C D w.heap.size (j + 1) z va vs g xs wv2]
          [[(9, none)], [(9, none)], [(7, none), (49, some 1)], [(50, some 2)], [(8, none)], [(52, some 4)], [(53, some 5)], [(51, some 3), (54, some 6)], [(7, none), (48, some 0)], [(56, some 8), (55, some 7)]] [some 48, some 49, some 50, some 51, some 52, some 53, some 54, some 55, some 56, none] [false, false, false, false, false, false, false, false, false, false, false, false, false, false, false, false, false, false, false, false, false, false, false, false, false, false, false, false, false, false, false, false, false, false, false, false, false, false, false, false, false, false, false, false, false, false, false, false, true, true, true, true, true, true, true, true, true, false, false, false, false, false, false, false, false, false, false, false, false, false, false, false, false, false, false, false, false, false, false, false, false, false, false, false, false, false, false, false, false, false, false, false, false, false, false, false, false, false, false, false, false, false, false, false, false, false, false, false]
          [(7, fun k => (Value.slice ad2 n2 cap2).ownBlock = some k), (9, fun k => k = g)]
          (by kernel_rfl) (by kernel_rfl) (by kernel_rfl) (by kernel_rfl) (by kernel_rfl) ?_ ?_ ?_ ?_
        · repeat' (first | exact stable_eq _ | exact stable_oneS _ _ | exact stable_rowS _ _ _ _ _ | exact (fun _ _ _ h hb => h.imp fun _ h => h.below hb) | exact trivial | apply And.intro)
        · repeat' (first | exact trivial | exact .inl rfl | exact .inr (.inr (stableF_eq _ _)) | exact .inr (.inr (stableF_oneS (fun k hk => hlvb k hk))) | exact .inr (.inr (stableF_oneS (fun k (hk : k = g) => by omega))) | exact .inr (.inr (stableF_rowS (fun k (hk : k = g) => ⟨by omega, by rw [hk]; exact hgne⟩))) | exact .inr (.inl (show depB _ 9 7 = true by decide +kernel)) | apply And.intro)
        · refine ⟨?_, ?_, ?_, ?_, ?_, ?_, ?_, ?_, ?_, ?_, trivial⟩
          all_goals
            intro b z hb hf
            have hzz := hb.size
            have HBZ := hide hb
            clear hb
            simp only [PlanFacts, List.getD_cons_zero, List.getD_cons_succ, Array.getD_eq_getD_getElem?] at hf
            try simp at hf
          iterate 3
            · go_simp
              exact ⟨_, rfl, Far.refl _ _, rfl⟩
          · have z0 := hcell z ((unhide HBZ).blk (unhide HBK) (by
              rintro ⟨q, hq, g1, g2, g3⟩
              simp at hq
              rcases hq with rfl | rfl
              · exact hgne g3
              · exact absurd (show depB _ 9 3 = false from g2) (by decide +kernel)))
            go_simp
            exact ⟨_, rfl, Far.refl _ _, rfl⟩
          · go_simp
            exact ⟨_, rfl, Far.refl _ _, rfl⟩
          · have HDZ : Hid (Calls Tryz.prog 23 #[.int .i64 j] z fun r y => r = .returned (.string db) ∧ Below z.heap.size z y) := by
              rw [unhide HDB]
              exact digits_any j z (by have := unhide HJ; omega)
            go_simp
            refine (unhide HDZ).mono ?_
            rintro r z2 ⟨rfl, hy⟩
            exact ⟨_, rfl, far_below hy, rfl⟩
          · go_simp
            exact ⟨_, rfl, far_below ((Below.refl _ _).alloc (Nat.le_refl _) _), _, rfl, hzz, heap_alloc_new z _⟩
          · obtain ⟨hf3, gg, hf6, hg6, hh6⟩ := hf
            have hrow := ownsRow_keep (w' := z) (unhide HR) (fun k hk => (unhide HBZ).rest k (hlvb k hk) (by
              rintro ⟨q, hq, g1, g2, g3⟩
              simp at hq
              rcases hq with rfl | rfl
              · exact g1 rfl
              · have : k = g := g3
                exact hgne (by rw [hk, this])))
            refine step_app_own rfl (.tmp 51) (.tmp 54) 45 rfl w.heap.size 9 (.string ⟨#[]⟩) 1 16 Tryz.underlying45 (by kernel_rfl) rfl (by decide) (.slice ad2 n2 cap2) n2 XS hrow (by simp [Act.eval, hf3]) ⟨gg, 0, none⟩ 1 1 [.string db] (by simp [Act.eval, hf6]) rfl ?_ (by intro u hu; simp at hu; subst hu; rfl) (by unfold maxLen; omega) (by omega) (by omega) ?_
            · intro k u hk
              rw [add_mk, blk_cell hh6, Nat.zero_add]
              simpa using hk
            · intro v' w' q1 q2 q3
              exact ⟨v', rfl, footOf_of (.head _) (far_grown q2), by rw [hXl]; exact q1, fun k hk => by
                have hk : v'.ownBlock = some k := hk
                rcases q3 with e | e
                · exact .inl (by rw [← e]; exact hk)
                · rw [e] at hk
                  injection hk with hk
                  exact .inr (by omega)⟩
          · go_simp
            exact ⟨_, rfl, Far.refl _ _, rfl⟩
          · have hFz : Far (fun k => (Value.slice ad2 n2 cap2).ownBlock = some k) y2 z := (unhide HBZ).mono (by
              rintro k _ ⟨q, hq, g1, g2, g3⟩
              simp at hq
              rcases hq with rfl | rfl
              · exact g3
              · exact absurd rfl g1)
            have hbg := hFz.blk (unhide HBK) hgne
            have z0 := hcell z hbg
            have z0f : z.frozen? ⟨g, sx, none⟩ = false := blk_free (i := sx) hbg
            obtain ⟨hf55, hrw⟩ := hf
            obtain ⟨ad3, cap3, e3, _⟩ := (own_rowO hrw.1).shape
            have HRW := hide hrw
            have HFz := hide hFz
            clear hrw hbg hFz
            rw [e3] at HRW
            go_simp
            refine ⟨footOf_of (.tail _ (.head _)) (far_set z g sx _), fun t => if t = sx then .slice ad3 (n2 + 1) cap3 else wv t, ?_⟩
            obtain ⟨e1, e2, e4⟩ := unhide HN
            obtain ⟨r1, r2⟩ := unhide HRW
            have hse := unhide HSE
            subst hse
            rw [unhide HDB] at r1
            have hfa := full_app (unhide HE2) (unhide HW2) (unhide hx3) (by rw [e4]; exact unhide HFz) (by rw [← e1, ← e2, ← hXl]; exact r1) (by rw [e4]; exact r2)
            rw [hXl] at hfa
            exact hfa
        · intro f3 z hF3 hwd
          obtain ⟨wv2, hfull⟩ := hwd.2.2.2.2.2.2.2.2.2.1
          have hFz : Far (fun k => w.heap.size ≤ k) y2 z := hF3.mono (fun k _ h => by
            obtain ⟨q, hq, h⟩ := h
            simp at hq
            rcases hq with rfl | rfl
            · exact (World.ownsRow.lt (unhide HR) k h).1
            · have : k = g := h
              omega)
          have HFU := hide hfull
          have HBF := hide ((unhide HB2).trans (hFz.below (unhide HB2).size (fun k hk e => by omega)))
          clear hwd hF3 hfull hFz
          simp only [mergeT]
          generalize f3 48 = v48
          generalize f3 49 = v49
          generalize f3 50 = v50
          generalize f3 51 = v51
          generalize f3 52 = v52
          generalize f3 53 = v53
          generalize f3 54 = v54
          generalize f3 55 = v55
          generalize f3 56 = v56
          go_wp2
          go_roundw
          case rel => exact ⟨j + 1, by have := unhide HJ; omega, by go_num, wv2, unhide HFU, unhide HBF⟩
          case measure =>
            have := unhide HJ
            simp [intOf]
            omega
    · have hj24 : j = 24 := by omega
      subst hj24
      have HX3 := hx3
      have hr24 : Hid ((takeN xs 24).room = 24) := takeN_room (unhide hx3) 24
      obtain ⟨hfe, hfw, hff, hfb⟩ := takeN_flags xs 24
      have HFLG := hide (And.intro hfe (And.intro hfw (And.intro hff hfb)))
      obtain ⟨SPL, hSPL⟩ : ∃ SPL : Nat → List ByteArray, SPL = fun s => (takeN xs 24).spool s := ⟨_, rfl⟩
      have hW := hF.want
      rw [← hSPL] at hW
      have HE := hide hF.ends
      have HW := hide hW
      have HB := hide hB
      have HSPL := hide hSPL
      generalize takeN xs 24 = a24 at HE hr24 HFLG HSPL
      clear hF hB hW hSPL hfe hfw hff hfb
      have H1 := hide ((unhide HE).refused (by omega) 0 ⟨#[111, 110, 101, 32, 116, 111, 111, 32, 109, 97, 110, 121]⟩ 7 (refuses_full (by omega) (by decide) (by rw [unhide hr24]; exact Nat.le_refl _)) (by omega))
      unfold ptrTo at H1
      go_upto_region 17 with (go_at_call 21; refine (unhide H1).mono ?_; rintro r y1 ⟨rfl, k1, k2⟩; have HE1 := hide k1; have HW1 := hide ((unhide HW).far k2 (fun q hq e => e.2 hq)); have HB1 := hide ((unhide HB).trans (k2.bel (unhide HE).bx)); clear k1 k2)
      have H2 := hide ((unhide HE1).refused (by omega) 3 ⟨#[110, 111, 32, 115, 116, 114, 101, 97, 109]⟩ 5 (refuses_stream (by omega)) (by omega))
      unfold ptrTo at H2
      go_upto_region 18 with (go_at_call 21; refine (unhide H2).mono ?_; rintro r y2 ⟨rfl, k1, k2⟩; have HE2 := hide k1; have HW2 := hide ((unhide HW1).far k2 (fun q hq e => e.2 hq)); have HB2 := hide ((unhide HB1).trans (k2.bel (unhide HE1).bx)); clear k1 k2)
      have H3 := hide ((unhide HE2).refused (by omega) 0 ⟨#[116, 119, 101, 110, 116, 121, 32, 98, 121, 116, 101, 115, 32, 97, 110, 100, 32, 111, 110, 101, 32]⟩ 6 (refuses_long (by omega) (by decide)) (by omega))
      unfold ptrTo at H3
      go_upto_region 19 with (go_at_call 21; refine (unhide H3).mono ?_; rintro r y3 ⟨rfl, k1, k2⟩; have HE3 := hide k1; have HW3 := hide ((unhide HW2).far k2 (fun q hq e => e.2 hq)); have HB3 := hide ((unhide HB2).trans (k2.bel (unhide HE2).bx)); clear k1 k2)
      clear H1 H2 H3 HE HE1 HE2 HW HW1 HW2 HB HB1 HB2
      go_wp2
      go_loopw [14] (fun i wr => ∃ j : Nat, j ≤ m ∧ i = .int .i64 j ∧ Ends C D w.heap.size (27 + j) wr va vs (tickN a24 j) sk00 (WantU g wv) ∧ WantAt w.heap.size wr g wv SPL ∧ Below w.heap.size w wr) (fun i _ => m - (intOf i).toNat)
      case atStart => exact ⟨0, by omega, rfl, unhide HE3, unhide HW3, unhide HB3⟩
      case round =>
        obtain ⟨j, hj, rfl, hE, hW, hB⟩ := hrel
        clear HE3 HW3 HB3
        have HP := HPK wr
        by_cases hlt2 : j < m
        · have hji : (j : Int) < (m : Int) := by omega
          have HT := hide (hE.tick (by omega))
          have HE := hide hE
          have HW := hide hW
          have HB := hide hB
          unfold ptrTo at HT
          clear hE hW hB
          go_wp2_with (first | (go_at_call 22; refine (unhide HP).mono ?_; rintro r y ⟨rfl, rfl⟩) | (go_at_call 24; refine (unhide HT).mono ?_; rintro r y ⟨lv, fs, rfl, _, k2, k3⟩; have HE4 := hide (k2.mono (fun q hq => .inl hq) (Nat.le_refl _)); have HS4 := hide k3; clear k2 k3))
          go_roundw
          case rel => exact ⟨j + 1, by omega, by go_num, unhide HE4, (unhide HW).far (unhide HS4) (fun q hq e => e.2 hq), (unhide HB).trans ((unhide HS4).bel (unhide HE).bx)⟩
          case measure => simp [intOf]; omega
        · have hjm : j = m := by omega
          subst hjm
          have hji : ¬ (j : Int) < (j : Int) := by omega
          have HE := hide hE
          have HW := hide hW
          have HB := hide hB
          clear hE hW hB
          go_upto_region 23 with (go_at_call 22; refine (unhide HP).mono ?_; rintro r y ⟨rfl, rfl⟩)
          have HSP : Hid (∀ t : Nat, t < 3 → agSpools (tickN a24 j) t = SPL t) := by
            show ∀ t : Nat, _
            intro t ht3
            unfold agSpools
            rw [if_pos (by omega), tickN_is (unhide HFLG).2.1, unhide HSPL]
            rfl
          go_wp2
          go_loopw [15, 16, 17] (fun i _ _ wr => ∃ t : Nat, t ≤ 3 ∧ i = .int .i64 t ∧ Ends C D w.heap.size (27 + j) wr va vs (tickN a24 j) sk00 (WantU g wv) ∧ WantAt w.heap.size wr g wv SPL ∧ Below w.heap.size w wr) (fun i _ _ _ => 3 - (intOf i).toNat)
          case atStart => exact ⟨0, by omega, rfl, unhide HE, unhide HW, unhide HB⟩
          case round =>
            obtain ⟨t, ht3, rfl, hE, hW, hB⟩ := hrel
            clear HE HW HB
            by_cases hlt3 : t < 3
            · have hji : (t : Int) < 3 := by omega
              have hj0 : (0 : Int) ≤ (t : Int) := by omega
              have hS := hE.spool (t : Int)
              rw [(unhide HSP) t hlt3] at hS
              have HS := hide hS
              have hSl : (SPL t).length ≤ 1000000000 := by
                rw [unhide HSPL]
                have h1 := spool_len (a := a24) hlt3
                rw [unhide hr24] at h1
                show (a24.spool t).length ≤ _
                omega
              obtain ⟨st, hst⟩ : ∃ st, st = SPL t := ⟨_, rfl⟩
              rw [← hst] at HS hSl
              have HST := hide hst
              have hcl := hW.cell hlt3
              obtain ⟨wad, wcap, ewv, _⟩ := (own_rowO (hW.row t hlt3)).shape
              have hrw := hW.row t hlt3
              rw [← hst] at hrw ewv
              rw [ewv] at hcl hrw
              have HRW := hide hrw
              have hgl := (hW.lt g (.inl rfl)).2
              obtain ⟨nt, hnt⟩ : ∃ nt, nt = st.length := ⟨_, rfl⟩
              have HNT := hide hnt
              rw [← hnt] at hcl
              have HE := hide hE
              have HW := hide hW
              have HB := hide hB
              clear hE hW hB hS hst hrw ewv hnt
              unfold ptrTo at HS
              go_upto_region 27 with (go_at_call 26; refine (unhide HS).mono ?_; rintro r y5 ⟨lv, rfl, k1, k2, k3⟩; obtain ⟨sad, scap, es, _⟩ := (own_rowO k1).shape; rw [es] at k1; subst es; have hc5 := (k3.cell (p := ⟨g, t, none⟩) hgl).trans hcl; have HQ := hide (keepSame_any y5 _ _ st st (listAt_own k1) (listAt_own (ownsRow_keep (unhide HRW) (fun q hq => k3.block q (World.ownsRow.lt (unhide HRW) q hq).2))) hSl); have HE5 := hide (k2.mono (fun q hq => .inl hq) (Nat.le_refl _)); have HB5 := hide k3; clear k1 k2 k3)
              simp only [decide_true] at HQ
              rw [← unhide HNT] at HQ
              rw [← unhide HNT]
              clear hcl
              go_upto_region 28 with (go_at_call 33; refine (unhide HQ).mono ?_; rintro r y6 ⟨rfl, q6, hy6⟩; subst hy6)
              refine wp_world (fun x => Ends C D w.heap.size (27 + j) x va vs (tickN a24 j) sk00 (WantU g wv) ∧ WantAt w.heap.size x g wv SPL ∧ Below w.heap.size w x) ?_ ?_
              · have hb6 := (unhide HB5).trans ((below_drewN (Below.refl y5.heap.size y5) q6).mono (unhide HB5).size)
                exact ⟨(unhide HE5).below (below_drewN (Below.refl _ _) q6), (unhide HW).far (E := fun _ => False) (far_below hb6) (fun _ _ e => e), (unhide HB).trans (hb6.mono (unhide HB).size)⟩
              clear HE5 HB5 HQ hc5 HE HW HB HS HRW
              rintro x6 ⟨hE6, hW6, hB6⟩
              have HE6 := hide hE6
              have HW6 := hide hW6
              have HB6 := hide hB6
              clear hE6 hW6 hB6
              go_wp2
              go_roundw
              case rel => exact ⟨t + 1, by omega, by go_num, unhide HE6, unhide HW6, unhide HB6⟩
              case measure => simp [intOf]; omega
            · have hroom : (exN (tickN a24 j) sk00 3).1.room < 24 := by
                obtain ⟨f1, f2, f3, f4⟩ := unhide HFLG
                exact exN_full hE.ga f3 f2 f4 (unhide hr24)
              have HE := hide (hE.mono (M := 40) (fun _ h => h) (by omega))
              have HB := hide hB
              have hti : ¬ (t : Int) < 3 := by omega
              clear hE hW hB
              have hz : exN (tickN a24 j) sk00 0 = (tickN a24 j, sk00) := rfl
              have hs := exN_succ (tickN a24 j) sk00
              generalize exN (tickN a24 j) sk00 = A4 at hroom hz hs
              have HZ := hide hz
              have HN4 := hide hs
              have HRM := hide hroom
              clear hz hs hroom
              go_wp2
              go_loopw [18] (fun i wr => ∃ t : Nat, t ≤ 3 ∧ i = .int .i64 t ∧ Ends C D w.heap.size (40 + t) wr va vs (A4 t).1 (A4 t).2 (WantU g wv) ∧ Below w.heap.size w wr) (fun i _ => 3 - (intOf i).toNat)
              case atStart =>
                refine ⟨0, by omega, rfl, ?_, unhide HB⟩
                rw [unhide HZ]
                exact unhide HE
              case round =>
                obtain ⟨t4, ht4, rfl, hE, hB⟩ := hrel
                clear HE HB
                by_cases hlt4 : t4 < 3
                · have hji : (t4 : Int) < 3 := by omega
                  have HX0 := exchange_any C D w.heap.size (40 + t4) _ va vs _ _ _ hE (by omega)
                  have e4 := (unhide HN4) t4
                  have e1 : (exchM (A4 t4).1 (A4 t4).2).1 = (A4 (t4 + 1)).1 := by rw [e4]
                  have e2 : (exchM (A4 t4).1 (A4 t4).2).2.1 = (A4 (t4 + 1)).2 := by rw [e4]
                  rw [e1, e2] at HX0
                  clear e4 e1 e2
                  generalize (exchM (A4 t4).1 (A4 t4).2).2.2 = bx at HX0
                  generalize (((A4 t4).1.tick.2.length : Nat) : Int) = nx at HX0
                  have HX := hide HX0
                  have HBX := hide hE.bx
                  have HB := hide hB
                  unfold ptrTo at HX
                  clear hE hB HX0
                  go_wp2_with (go_at_call 31; refine (unhide HX).mono ?_; rintro r y7 ⟨rfl, k1, k2⟩; have HE7 := hide k1; have HS7 := hide k2; clear k1 k2)
                  go_roundw
                  case rel => exact ⟨t4 + 1, by omega, by go_num, unhide HE7, (unhide HB).trans ((unhide HS7).bel (unhide HBX))⟩
                  case measure => simp [intOf]; omega
                · have ht43 : t4 = 3 := by omega
                  subst ht43
                  have hji : ¬ ((3 : Nat) : Int) < 3 := by omega
                  have HU0 := hE.submit (by omega) 0 ⟨#[116, 104, 101, 114, 101, 32, 105, 115, 32, 114, 111, 111, 109]⟩
                  have hr0 : (A4 3).1.refuses 0 (⟨#[116, 104, 101, 114, 101, 32, 105, 115, 32, 114, 111, 111, 109]⟩ : ByteArray).size = 0 := refuses_ok (s := 0) (by omega) (by decide) (unhide HRM)
                  rw [hr0] at HU0
                  have HU := hide HU0
                  have HBX := hide hE.bx
                  have HB := hide hB
                  unfold ptrTo at HU
                  clear hE hB hr0 HU0
                  go_wp2_with (go_at_call 21; refine (unhide HU).mono ?_; rintro r y8 ⟨rfl, _, k2⟩; have HS8 := hide k2; clear k2)
                  go_ret
                  exact ⟨rfl, (unhide HB).trans ((unhide HS8).bel (unhide HBX))⟩
end Go.Proofs.YtamafdcnbcoegaaGreat
namespace Go.Proofs.YtamafdcnbcoegaaGreat
open Go.ChangeShapes Go.WideShapes Go.ChangeAt Go.RowKit

theorem Tryz.own : ownKnob Tryz.prog.godebug = none := by kernel_rfl
theorem Tryz.laidOut : laidOutB Tryz.prog = true := by kernel_rfl

theorem intCells : Tryz.prog.cellsOf 3 = 1 := by kernel_rfl
theorem strCells : Tryz.prog.cellsOf 9 = 1 := by kernel_rfl

theorem add_plain (b off k : Nat) : (⟨b, off, none⟩ : Addr).add k = ⟨b, off + k, none⟩ := by
  unfold Addr.add
  split
  · rename_i h; rw [h]; rfl
  · rfl

end Go.Proofs.YtamafdcnbcoegaaGreat
namespace Go.Proofs.YtamafdcnbcoegaaGreat
open Go.ChangeShapes Go.WideShapes Go.ChangeAt Go.RowKit

theorem intBytes : Tryz.prog.bytesOf 3 = 8 := by kernel_rfl
theorem i64_wf {n : Int} (h : (Lit.int .i64 n).wf = true) : -9223372036854775808 ≤ n ∧ n ≤ 9223372036854775807 := by
  simp only [Lit.wf, Bool.and_eq_true, decide_eq_true_eq] at h
  rw [show IntKind.i64.min = -9223372036854775808 from by decide, show IntKind.i64.max = 9223372036854775807 from by decide] at h
  exact h
/-- A number that came in. -/
theorem open_int {H : Type} {enc : TypeId × Value → H} {w : World} {base : Nat} {spare : Nat → Bool} {held : Bool} {v : Value} {d : DataW H} {p : List MemPlace}
    (h : DataW.Trod enc Tryz.prog w base spare held 3 v d p) (hv : ∃ n, v = .int .i64 n) : ∃ n : Int, v = .int .i64 n ∧ -9223372036854775808 ≤ n ∧ n ≤ 9223372036854775807 := by
  obtain ⟨n, rfl⟩ := hv
  obtain ⟨fuel, hf⟩ := h
  have hcs : (Value.int .i64 n).cells.toList = [.int .i64 n] := rfl
  rw [hcs] at hf
  obtain ⟨c, e, _, wf⟩ := DataW.trod_int Tryz.underlying3 hf
  simp at e
  subst e
  exact ⟨n, rfl, i64_wf wf⟩
set_option maxRecDepth 100000 in
/-- A list of numbers that came in. -/
theorem open_ints {H : Type} {enc : TypeId × Value → H} {w : World} {base : Nat} {spare : Nat → Bool} {held : Bool} {v : Value} {d : DataW H} {p : List MemPlace}
    (h : DataW.Trod enc Tryz.prog w base spare held 26 v d p) (hv : ∃ a len cap, v = .slice a len cap) (hw : ∀ n ∈ d.weights Tryz.prog 26, n ≤ reachBytes) :
    ∃ ad len cap, v = .slice ad len cap ∧ len ≤ 17592186044416 ∧ IntsIn w ad len := by
  obtain ⟨a0, l0, c0, rfl⟩ := hv
  obtain ⟨fuel, hf⟩ := h
  have hcs : (Value.slice a0 l0 c0).cells.toList = [.slice a0 l0 c0] := rfl
  rw [hcs] at hf
  rcases Deep.open_slice Tryz.underlying26 hf with ⟨e, _⟩ | ⟨a, len, cap, m, n, D, Pl, e, _, hl, _, hm, hd, hi⟩
  · injection e with e
    injection e with e1 e2 e3
    subst e1 e2 e3
    exact ⟨none, 0, 0, rfl, by omega, fun h => absurd h (by omega)⟩
  · injection e with e
    injection e with e1 e2 e3
    subst e1 e2 e3
    injection hd with hd _
    subst hd
    have hlm : l0 ≤ m := by rw [hm]; split <;> omega
    have hsz : l0 * 8 ≤ reachBytes := by
      have := hw ((((List.range l0).map D).length + ((List.range (m - l0)).map fun j => D (l0 + j)).length) * Tryz.prog.bytesOf 3) (by simp [DataW.weights, Tryz.underlying26])
      rw [intBytes] at this
      simp at this
      omega
    refine ⟨some a, l0, c0, rfl, by unfold reachBytes at hsz; omega, fun h0 => ?_⟩
    rw [intCells] at hi
    obtain ⟨b0, off, sp⟩ := a
    have hsp : sp = none ∧ b0 < w.heap.size := by
      obtain ⟨cs', h1, h2⟩ := hi 0 (by omega)
      obtain ⟨_, hlen, hc⟩ := World.cells?_some h1
      have := hc 0 (by omega)
      rw [List.getElem?_eq_getElem (by omega)] at this
      simp only [Addr.add, Nat.zero_mul, if_true] at this
      unfold World.cell? at this
      simp only at this
      split at this
      · rename_i hb
        refine ⟨?_, lt_of_block hb⟩
        cases sp with
        | none => rfl
        | some _ => simp at this
      · cases this
    obtain ⟨rfl, hlt⟩ := hsp
    refine ⟨b0, off, rfl, hlt, fun i hil => ?_⟩
    obtain ⟨cs', h1, h2⟩ := hi i (by omega)
    obtain ⟨_, hlen, hc⟩ := World.cells?_some h1
    obtain ⟨c, e, _, wf⟩ := DataW.trod_int Tryz.underlying3 h2
    subst e
    refine ⟨c, i64_wf wf, ?_⟩
    have := hc 0 (by omega)
    rw [add_plain, add_plain] at this
    simpa using this

set_option maxRecDepth 100000 in
theorem full_lifted {top : Nat} (C : AgentC top) (D : SinkC) (ht : 1000 ≤ top) (os : Os) (started : os.Started) (H : Type) (enc : TypeId × Value → H) :
    ReturnsInHanded {} Tryz.checked os 12 .any (Rows.fullSpec.pre6 enc Tryz.prog Tryz.f12 Rows.fullRow.domain false) (Rows.fullSpec.post enc Tryz.prog Tryz.f12 false true false false) := by
  refine returnsInHanded_of_change_sized (C := Tryz.checked) Tryz.own started (by kernel_rfl) Tryz.func12
    (ChangeSpec.witness6 (enc := enc) (C := Tryz.checked) false ⟨#[], #[.slice none 0 0, .int .i64 0], []⟩ 8 (by kernel_rfl) (by kernel_rfl) (by kernel_rfl) (by kernel_rfl)) ?_
  intro W base args ds gs before hval0 hW hcnd hsz0 hholds
  have hval : ∀ (j : Nat) t v, Tryz.f12.params[j]? = some t → args[j]? = some v → Value.okWide Tryz.prog W .any base t v := hval0
  have hsz : (DataW.weightsEach Tryz.prog (Tryz.f12.params.toList ++ Rows.fullSpec.plain.varTypes Tryz.prog) (ds ++ gs)).all (· ≤ reachBytes) = true := hsz0
  have hW' := hW
  obtain ⟨p, q, hA0, hV, rfl, hfz, hnd⟩ := hW
  have hA : DataW.TrodAll enc Tryz.prog W 0 (fun _ => true) true Tryz.f12.params.toList args.toList ds p := hA0
  rw [Tryz.params12] at hA hval hsz
  obtain ⟨v0, vs0, d0, ds0, p0, q0, hargs, rfl, rfl, h0, r0⟩ := trodAll_cons hA
  obtain ⟨v1, vs1, d1, ds1, p1, q1, rfl, rfl, rfl, h1, r1⟩ := trodAll_cons r0
  obtain ⟨rfl, rfl, rfl⟩ := trodAll_nil r1
  obtain rfl : args = #[v0, v1] := by cases args; simp_all
  obtain ⟨rfl, rfl⟩ := trodVars_none hV
  have k0 := h0
  have k1 := h1
  have lt0 : ∀ x ∈ p0, x.block < W.heap.size := by obtain ⟨m, hm⟩ := k0; exact DataW.trod_lt m _ _ _ hm
  have lt1 : ∀ x ∈ p1, x.block < W.heap.size := by obtain ⟨m, hm⟩ := k1; exact DataW.trod_lt m _ _ _ hm
  obtain ⟨ad, len, cap, rfl, hlen, hops⟩ := open_ints h0 (okWide_slice Tryz.underlying26 (hval 0 26 v0 rfl rfl)) (fun n hn => by
    have := List.all_eq_true.1 hsz n (DataW.weights_mem_each (j := 0) rfl rfl n hn)
    simpa using this)
  obtain ⟨n, rfl, hn⟩ := open_int h1 (okWide_int Tryz.underlying3 (hval 1 3 v1 rfl rfl))
  clear hA0 hval0 hsz0
  refine (full_any C D ht ad len cap n W (by omega) hn hops).mono fun e W' ⟨he, bel⟩ => ?_
  subst he
  exact ⟨_, rfl, _, _, _, [], _, [], hW', trodAll_mk1 (shut_bool Tryz.underlying4 _), (trodAll_cons_mk (Below.trod Tryz.laidOut (by kernel_rfl) (of_decide_eq_true (by kernel_rfl)) k0 bel lt0) (trodAll_cons_mk (Below.trod Tryz.laidOut (by kernel_rfl) (of_decide_eq_true (by kernel_rfl)) k1 bel lt1) trodAll_mk0)), rfl, bel.frame _, fun h => by cases h⟩

/-- P18: what is full refuses, and has room again, for a program's ends that keep their contracts. -/
theorem full_holds {top : Nat} (C : AgentC top) (D : SinkC) (ht : 1000 ≤ top) : Rows.FullSaid :=
  OpenClaim.holds_of_wide 12 Tryz.f12 rfl rfl rfl rfl rfl rfl rfl ⟨rfl, rfl, rfl, rfl, rfl⟩ rfl rfl rfl rfl rfl (by kernel_rfl) Tryz.func12 (by kernel_rfl)
    (of_decide_eq_true (by kernel_rfl)) (by unfold Func.isWrapper; rw [if_neg (by decide +kernel)]; exact ⟨rfl, rfl⟩)
    (fun os started H enc _ => full_lifted C D ht os started H enc)
end Go.Proofs.YtamafdcnbcoegaaGreat
