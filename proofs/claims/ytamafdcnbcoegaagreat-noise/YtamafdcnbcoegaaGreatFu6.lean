/-
  Part 6 of a proof: U1, U2, F1, S10, S11, S12, S7U, S8U, S7I, S8I, S9I, S7S, S8S, F2.
-/
import Derived.RangeFuncNested
import Derived.RangeFuncBound
import Derived.RangeFuncCalls
import Derived.RangeFuncLeaves
import Derived.Shelf.Abstract
import Derived.Shelf.RegionOpen
import Derived.OwnWalkIn
import Derived.TacticsInMore
import Derived.LoopNIn
import Derived.LoopIn
import Derived.Test.YtamafdcnbcoegaaGreatFu5
namespace Go.Proofs.YtamafdcnbcoegaaGreat
open Go.RowKit

/-- What is so of an agent behind at most N steps. -/
structure AgGood (N : Nat) (a : Mod.Ag) : Prop where
  ep : a.epoch ≤ 2147483647
  tk : a.ticks ≤ N
  sum : ∀ s, s < 3 → (a.fl s).base + (a.fl s).kept.length ≤ N
  bod : ∀ s, s < 3 → ∀ x ∈ (a.fl s).kept, x.1.size ≤ 20 ∧ x.2 ≤ N
theorem AgGood.mono {N M : Nat} {a : Mod.Ag} (G : AgGood N a) (h : N ≤ M) : AgGood M a :=
  ⟨G.ep, Nat.le_trans G.tk h, fun s hs => Nat.le_trans (G.sum s hs) h, fun s hs x hx => ⟨(G.bod s hs x hx).1, Nat.le_trans (G.bod s hs x hx).2 h⟩⟩
theorem agGood_submit {N : Nat} {a : Mod.Ag} (G : AgGood N a) (s : Nat) (b : ByteArray) (hb : b.size ≤ 20) : AgGood (N + 1) (a.submit s b) := by
  refine ⟨G.ep, Nat.le_succ_of_le G.tk, fun t ht => ?_, fun t ht x hx => ?_⟩
  · have := G.sum t ht
    unfold Mod.Ag.submit Mod.upd
    simp only
    split
    · rename_i e
      subst e
      simp; omega
    · omega
  · unfold Mod.Ag.submit Mod.upd at hx
    simp only at hx
    split at hx
    · rename_i e
      subst e
      rw [List.mem_append, List.mem_singleton] at hx
      rcases hx with hx | rfl
      · exact ⟨(G.bod t ht x hx).1, Nat.le_succ_of_le (G.bod t ht x hx).2⟩
      · exact ⟨hb, Nat.zero_le _⟩
    · exact ⟨(G.bod t ht x hx).1, Nat.le_succ_of_le (G.bod t ht x hx).2⟩
theorem sendTo_mem (epoch s : Nat) (f : Mod.Flow) (ticks : Nat) : ∀ i, ∀ y ∈ (Mod.sendTo epoch s f ticks i).1, ∃ x ∈ f.kept, y.1 = x.1 ∧ (y.2 = x.2 ∨ y.2 = ticks)
  | 0 => fun y hy => ⟨y, hy, rfl, .inl rfl⟩
  | i + 1 => by
    intro y hy
    have ih := sendTo_mem epoch s f ticks i
    rw [Mod.sendTo] at hy
    split at hy
    · exact ih y hy
    · rename_i x hx
      split at hy
      · rcases List.mem_or_eq_of_mem_set hy with hy | rfl
        · exact ih y hy
        · exact ⟨x, List.mem_of_getElem? hx, rfl, .inr rfl⟩
      · exact ih y hy
theorem agGood_tick {N : Nat} {a : Mod.Ag} (G : AgGood N a) : AgGood (N + 1) a.tick.1 := by
  have h0 : AgGood (N + 1) { a with ticks := a.ticks + 1 } := ⟨G.ep, Nat.succ_le_succ G.tk, fun s hs => Nat.le_succ_of_le (G.sum s hs), fun s hs x hx => ⟨(G.bod s hs x hx).1, Nat.le_succ_of_le (G.bod s hs x hx).2⟩⟩
  unfold Mod.Ag.tick
  split
  · exact h0
  · split
    · exact h0
    · refine ⟨G.ep, Nat.succ_le_succ G.tk, fun s hs => ?_, fun s hs y hy => ?_⟩
      · have := G.sum s hs
        simp only [Mod.sendFl, if_pos hs, sendTo_len]
        omega
      · simp only [Mod.sendFl, if_pos hs] at hy
        obtain ⟨x, hx, h1, h2⟩ := sendTo_mem _ _ _ _ _ y hy
        have h3 := G.bod s hs x hx
        refine ⟨h1 ▸ h3.1, ?_⟩
        have := G.tk
        rcases h2 with h2 | h2
        · omega
        · omega
theorem agGood_drop {N : Nat} {a : Mod.Ag} (G : AgGood N a) (n : Nat → Nat) (hn : ∀ s, s < 3 → n s ≤ (a.fl s).kept.length) : AgGood N (a.drop n) := by
  refine ⟨G.ep, G.tk, fun s hs => ?_, fun s hs x hx => ?_⟩
  · have := G.sum s hs
    have := hn s hs
    simp only [Mod.Ag.drop, Mod.dropTo, if_pos hs, Mod.Flow.drop, List.length_drop]
    omega
  · simp only [Mod.Ag.drop, Mod.dropTo, if_pos hs, Mod.Flow.drop] at hx
    exact G.bod s hs x (List.mem_of_mem_drop hx)
theorem agGood_deliver {N : Nat} {a : Mod.Ag} (G : AgGood N a) (k e st q : Int) (b : ByteArray) : AgGood N (a.deliver k e st q b) := by
  have GD := agGood_drop G (a.says k e st q b) (fun s _ => says_le a k e st q b s)
  unfold Mod.Ag.deliver
  split
  · exact ⟨G.ep, G.tk, G.sum, G.bod⟩
  · split
    · exact G
    · split
      · exact ⟨G.ep, G.tk, G.sum, G.bod⟩
      · split
        · refine ⟨GD.ep, GD.tk, fun s hs => ?_, fun s hs x hx => ?_⟩
          · have := GD.sum s hs
            simp only [Mod.fresh, if_pos hs, List.length_map]
            exact this
          · simp only [Mod.fresh, if_pos hs] at hx
            obtain ⟨y, hy, rfl⟩ := List.mem_map.1 hx
            exact ⟨(GD.bod s hs y hy).1, Nat.zero_le _⟩
        · split
          · split
            · exact G
            · refine ⟨GD.ep, GD.tk, fun s hs => ?_, fun s hs x hx => ?_⟩
              · have := GD.sum s hs
                simp only [Mod.upd]
                split
                · rename_i e'
                  subst e'
                  exact this
                · exact this
              · simp only [Mod.upd] at hx
                split at hx
                · rename_i e'
                  subst e'
                  exact GD.bod _ hs x hx
                · exact GD.bod s hs x hx
          · exact G

end Go.Proofs.YtamafdcnbcoegaaGreat
namespace Go.Proofs.YtamafdcnbcoegaaGreat
open Go.RowKit

def agSpools (a : Mod.Ag) (i : Int) : List ByteArray := if 0 ≤ i ∧ i < 3 then a.spool i.toNat else []
/-- What comes of bytes at an agent: an Errno and the agent behind it. -/
def agSays (a : Mod.Ag) (l : List UInt8) : Int × Mod.Ag :=
  if Wire.reads l = true then (0, a.deliver (Wire.kindOf l) (Wire.epochOf l) (Wire.streamOf l) (Wire.seqOf l) (Wire.bodyOf l)) else (1, a)
def agSubmits (a : Mod.Ag) (i : Int) (s : ByteArray) : Mod.Ag := if a.refuses i s.size = 0 then a.submit i.toNat s else a
/-- A program's agent, as its callers see it (N: how many steps at most it has come through; top: as many as it takes). -/
structure AgentC (top : Nat) where
  At : World → Nat → Mod.Ag → (Nat → Prop) → Prop
  lt : ∀ {w v a U}, At w v a U → ∀ k, U k → k < w.heap.size
  far : ∀ {w w' v a U E}, At w v a U → Far E w w' → (∀ k, U k → ¬ E k) → At w' v a U
  submit : ∀ {w v a U N} (i : Int) (s : ByteArray), At w v a U → AgGood N a → N < top → Calls Tryz.prog 21 #[ptrTo v, .int .i64 i, .string s] w fun r w' =>
    ∃ U', r = .returned (.int .i64 (a.refuses i s.size)) ∧ At w' v (agSubmits a i s) U' ∧ Far U w w' ∧ ∀ k, U' k → U k ∨ w.heap.size ≤ k
  deliver : ∀ {w v a U N} (bs : Value) (l : List UInt8), At w v a U → AgGood N a → N < top → BytesAt w bs l → Calls Tryz.prog 28 #[ptrTo v, bs] w fun r w' =>
    ∃ U', r = .returned (.int .i64 (agSays a l).1) ∧ At w' v (agSays a l).2 U' ∧ Far U w w' ∧ ∀ k, U' k → U k ∨ w.heap.size ≤ k
  tick : ∀ {w v a U N}, At w v a U → AgGood N a → N < top → Calls Tryz.prog 24 #[ptrTo v] w fun r w' =>
    ∃ lv fs U', r = .returned lv ∧ FramesOut w.heap.size w' lv fs (a.tick.2.map fun l => ⟨l.toArray⟩) U' ∧ At w' v a.tick.1 U' ∧ Far U w w' ∧ ∀ k, U' k → U k ∨ w.heap.size ≤ k
  epoch : ∀ {w v a U}, At w v a U → Calls Tryz.prog 39 #[ptrTo v] w fun r w' => r = .returned (.int .i64 a.epoch) ∧ Below w.heap.size w w'
  spool : ∀ {w v a U} (i : Int), At w v a U → Calls Tryz.prog 26 #[ptrTo v, .int .i64 i] w fun r w' =>
    ∃ lv, r = .returned lv ∧ w'.ownsRow w.heap.size 9 1 lv (agSpools a i).length (strs (agSpools a i)) ∧ Below w.heap.size w w'
  opened : ∀ {w} (bs : Value), BytesAt w bs (List.replicate 1664 0) → Calls Tryz.prog 37 #[bs] w fun r w' =>
    ∃ v U, r = .returned (.tuple #[ptrTo v, .int .i64 0]) ∧ At w' v { epoch := 1, ticks := 0, welcome := false, fenced := false, fl := fun _ => { base := 0, kept := [], held := [] } } U ∧ Below w.heap.size w w' ∧ ∀ k, U k → w.heap.size ≤ k

section
variable {top N : Nat} {C : AgentC top} {w x : World} {q sv rp : Nat} {a : Mod.Ag} {r : RRest} {kv hk : Nat → Value} {U : Nat → Prop} {left : Int} {E : Nat → Prop}
end
end Go.Proofs.YtamafdcnbcoegaaGreat
namespace Go.Proofs.YtamafdcnbcoegaaGreat
open Go.RowKit

set_option maxHeartbeats 400000 in
theorem firstHeld_any (q : Nat) (hq : q ≤ 1000000000000) (w : World) : Calls Tryz.prog 202 #[.int .i64 q] w fun e w' => e = .returned (.int .i64 ((q : Int) + 2)) ∧ w' = w := by
  have hw : IntKind.i64.wrap ((q : Int) + 2) = (q : Int) + 2 := by rw [IntKind.wrap_i64]; omega
  go_enter Tryz.func202, Tryz.ntmps202
  go_wp2
  go_ret
  exact ⟨rfl, rfl⟩

theorem infoI : (Tryz.prog.info? 3).map (fun i => (i.zero, i.size, i.bytes)) = some (some (.int .i64 0), 1, 8) := by kernel_rfl

set_option maxRecDepth 100000 in
set_option maxHeartbeats 2000000 in
/-- frame.Held: the numbers that an Ack's bits say. -/
theorem frameHeld_any (q : Nat) (hq : q ≤ 1000000000) (b : ByteArray) (hp : 0 < b.size) (w : World) :
    Calls Tryz.prog 155 #[.int .i64 q, .string b] w fun e w' => ∃ v, e = .returned v ∧ w'.ownsRow w.heap.size 3 1 v (Mod.bitsOf q b[0].toNat 3).length (numCells (Mod.bitsOf q b[0].toNat 3)) ∧ Below w.heap.size w w' := by
  obtain ⟨i0, hi, hz0, hz1, hz2⟩ := info_parts2 infoI
  go_enter Tryz.func155, Tryz.ntmps155
  go_wp2
  go_loopw [5, 6, 7] (fun v5 _ i wr => ∃ j : Nat, j ≤ 3 ∧ i = .int .i64 j ∧ wr.ownsRow w.heap.size 3 1 v5 (Mod.bitsOf q b[0].toNat j).length (numCells (Mod.bitsOf q b[0].toNat j)) ∧ Below w.heap.size w wr) (fun _ _ i _ => 3 - (intOf i).toNat)
  case atStart => exact ⟨0, by omega, rfl, World.ownsRow_nil _ _ _ _, Below.refl _ _⟩
  case round =>
    obtain ⟨j, hj, rfl, ho, hb⟩ := hrel
    have HO := hide ho
    have HB := hide hb
    clear ho hb
    rcases (show j = 0 ∨ j = 1 ∨ j = 2 ∨ j = 3 by omega) with rfl | rfl | rfl | rfl
    · have hlen := bitsOf_len q b[0].toNat 0
      have hbit : (bits BinOp.and IntKind.u8 (((b[0].toNat : Nat) : Int)) 1 == 1) = decide (b[0].toNat % 2 = 1) := bit0 ⟨b[0].toNat, b[0].toNat_lt⟩
      have hw : IntKind.i64.wrap ((q : Int) + 2 + 0) = (q : Int) + 2 + 0 := by rw [IntKind.wrap_i64]; omega
      have hq2 := fun y => firstHeld_any q (by omega) y
      by_cases hb1 : b[0].toNat % 2 = 1
      · have HX := hide (show Mod.bitsOf q b[0].toNat (0 + 1) = Mod.bitsOf q b[0].toNat 0 ++ [q + 2 + 0] by simp [Mod.bitsOf, hb1])
        simp only [hb1, decide_true] at hbit
        generalize Mod.bitsOf q b[0].toNat 0 = bl at hlen HX HO
        have hsz := (unhide HB).size
        go_upto_region 7 with (first | (go_at_call 202; refine (hq2 _).mono ?_; rintro e y ⟨rfl, rfl⟩) | (at_builtin; refine wpList_append_own _ rfl (.tmp 16) (.tmp 21) 26 rfl w.heap.size 3 i0 (.int .i64 0) 1 8 Tryz.underlying26 hi hz0 hz1 hz2 rfl (by decide) u5 bl.length (numCells bl) rfl ((unhide HO).alloc _) ⟨y.heap.size, 0, none⟩ 1 1 [.int .i64 ((q : Int) + 2)] rfl rfl cells_new (by intro u hu; simp at hu; subst hu; rfl) (by unfold maxLen; omega) (by omega) (by simp; omega) ?_; intro v' w1 hown' hgrow _; have hb1' : Below w.heap.size w w1 := (unhide HB).trans (((Below.refl _ y).alloc hsz _).trans (below_grown_new (B := w.heap.size) hgrow (by simp; omega) (fun g hg => (World.ownsRow.lt (unhide HO) g hg).1))); replace hown' := hide hown'; replace hb1' := hide hb1'; clear hgrow))
        go_wp2
        go_roundw
        case rel => exact ⟨0 + 1, by omega, by go_num, by have := unhide hown'; rw [unhide HX, List.length_append, numCells_snoc]; simpa using this, unhide hb1'⟩
        case measure => simp [intOf]
      · have HX := hide (show Mod.bitsOf q b[0].toNat (0 + 1) = Mod.bitsOf q b[0].toNat 0 by simp [Mod.bitsOf, hb1])
        simp only [hb1, decide_false] at hbit
        go_wp2
        exact ⟨⟨0 + 1, by omega, by go_num, by rw [unhide HX]; exact unhide HO, unhide HB⟩, by simp [intOf]⟩
    · have hlen := bitsOf_len q b[0].toNat 1
      have hbit : (bits BinOp.and IntKind.u8 (((b[0].toNat : Nat) : Int) / 2) 1 == 1) = decide (b[0].toNat / 2 % 2 = 1) := bit1 ⟨b[0].toNat, b[0].toNat_lt⟩
      have hw : IntKind.i64.wrap ((q : Int) + 2 + 1) = (q : Int) + 2 + 1 := by rw [IntKind.wrap_i64]; omega
      have hq2 := fun y => firstHeld_any q (by omega) y
      by_cases hb1 : b[0].toNat / 2 % 2 = 1
      · have HX := hide (show Mod.bitsOf q b[0].toNat (1 + 1) = Mod.bitsOf q b[0].toNat 1 ++ [q + 2 + 1] by simp [Mod.bitsOf, hb1])
        simp only [hb1, decide_true] at hbit
        generalize Mod.bitsOf q b[0].toNat 1 = bl at hlen HX HO
        have hsz := (unhide HB).size
        go_upto_region 7 with (first | (go_at_call 202; refine (hq2 _).mono ?_; rintro e y ⟨rfl, rfl⟩) | (at_builtin; refine wpList_append_own _ rfl (.tmp 16) (.tmp 21) 26 rfl w.heap.size 3 i0 (.int .i64 0) 1 8 Tryz.underlying26 hi hz0 hz1 hz2 rfl (by decide) u5 bl.length (numCells bl) rfl ((unhide HO).alloc _) ⟨y.heap.size, 0, none⟩ 1 1 [.int .i64 ((q : Int) + 2 + 1)] rfl rfl cells_new (by intro u hu; simp at hu; subst hu; rfl) (by unfold maxLen; omega) (by omega) (by simp; omega) ?_; intro v' w1 hown' hgrow _; have hb1' : Below w.heap.size w w1 := (unhide HB).trans (((Below.refl _ y).alloc hsz _).trans (below_grown_new (B := w.heap.size) hgrow (by simp; omega) (fun g hg => (World.ownsRow.lt (unhide HO) g hg).1))); replace hown' := hide hown'; replace hb1' := hide hb1'; clear hgrow))
        go_wp2
        go_roundw
        case rel => exact ⟨1 + 1, by omega, by go_num, by have := unhide hown'; rw [unhide HX, List.length_append, numCells_snoc]; simpa using this, unhide hb1'⟩
        case measure => simp [intOf]
      · have HX := hide (show Mod.bitsOf q b[0].toNat (1 + 1) = Mod.bitsOf q b[0].toNat 1 by simp [Mod.bitsOf, hb1])
        simp only [hb1, decide_false] at hbit
        go_wp2
        exact ⟨⟨1 + 1, by omega, by go_num, by rw [unhide HX]; exact unhide HO, unhide HB⟩, by simp [intOf]⟩
    · have hlen := bitsOf_len q b[0].toNat 2
      have hbit : (bits BinOp.and IntKind.u8 (((b[0].toNat : Nat) : Int) / 4) 1 == 1) = decide (b[0].toNat / 4 % 2 = 1) := bit2 ⟨b[0].toNat, b[0].toNat_lt⟩
      have hw : IntKind.i64.wrap ((q : Int) + 2 + 2) = (q : Int) + 2 + 2 := by rw [IntKind.wrap_i64]; omega
      have hq2 := fun y => firstHeld_any q (by omega) y
      by_cases hb1 : b[0].toNat / 4 % 2 = 1
      · have HX := hide (show Mod.bitsOf q b[0].toNat (2 + 1) = Mod.bitsOf q b[0].toNat 2 ++ [q + 2 + 2] by simp [Mod.bitsOf, hb1])
        simp only [hb1, decide_true] at hbit
        generalize Mod.bitsOf q b[0].toNat 2 = bl at hlen HX HO
        have hsz := (unhide HB).size
        go_upto_region 7 with (first | (go_at_call 202; refine (hq2 _).mono ?_; rintro e y ⟨rfl, rfl⟩) | (at_builtin; refine wpList_append_own _ rfl (.tmp 16) (.tmp 21) 26 rfl w.heap.size 3 i0 (.int .i64 0) 1 8 Tryz.underlying26 hi hz0 hz1 hz2 rfl (by decide) u5 bl.length (numCells bl) rfl ((unhide HO).alloc _) ⟨y.heap.size, 0, none⟩ 1 1 [.int .i64 ((q : Int) + 2 + 2)] rfl rfl cells_new (by intro u hu; simp at hu; subst hu; rfl) (by unfold maxLen; omega) (by omega) (by simp; omega) ?_; intro v' w1 hown' hgrow _; have hb1' : Below w.heap.size w w1 := (unhide HB).trans (((Below.refl _ y).alloc hsz _).trans (below_grown_new (B := w.heap.size) hgrow (by simp; omega) (fun g hg => (World.ownsRow.lt (unhide HO) g hg).1))); replace hown' := hide hown'; replace hb1' := hide hb1'; clear hgrow))
        go_wp2
        go_roundw
        case rel => exact ⟨2 + 1, by omega, by go_num, by have := unhide hown'; rw [unhide HX, List.length_append, numCells_snoc]; simpa using this, unhide hb1'⟩
        case measure => simp [intOf]
      · have HX := hide (show Mod.bitsOf q b[0].toNat (2 + 1) = Mod.bitsOf q b[0].toNat 2 by simp [Mod.bitsOf, hb1])
        simp only [hb1, decide_false] at hbit
        go_wp2
        exact ⟨⟨2 + 1, by omega, by go_num, by rw [unhide HX]; exact unhide HO, unhide HB⟩, by simp [intOf]⟩
    · go_wp2
      go_ret
      exact ⟨_, rfl, unhide HO, unhide HB⟩
end Go.Proofs.YtamafdcnbcoegaaGreat
namespace Go.Proofs.YtamafdcnbcoegaaGreat
open Go.RowKit

/-- The world in which the two captured variables have been laid. -/
def boxed2 (w : World) (p o : Nat) (m : Int) : World := (w.alloc (.cells #[.pointer (some ⟨p, o, none⟩)] 209)).alloc (.cells #[.int .i64 m] 3)
def iterA (b : Nat) : Value := .func (.func 189) #[] #[.pointer (some ⟨b, 0, none⟩), .pointer (some ⟨b + 1, 0, none⟩)]

set_option maxHeartbeats 400000 in
theorem firstA_any (p o : Nat) (m : Int) (w : World) :
    Calls Tryz.prog 137 #[.pointer (some ⟨p, o, none⟩), .int .i64 m] w fun e w' => e = .returned (iterA w.heap.size) ∧ w' = boxed2 w p o m := by
  go_enter Tryz.func137, Tryz.ntmps137
  go_wp2
  go_ret
  exact ⟨rfl, rfl⟩

set_option maxHeartbeats 400000 in
theorem allA_any {w : World} {p o : Nat} {arr : Array Value} {t : TypeId} {nv mv : Value} {l : List (Nat × Value)} (hb : w.heap[p]? = some (.cells arr t (0, 0))) (h0 : arr[o]? = some nv) (S : ShelfIs w nv mv l) :
    Calls Tryz.prog 97 #[.pointer (some ⟨p, o, none⟩)] w fun e w' => e = .returned (iterA w.heap.size) ∧ w' = boxed2 w p o l.length := by
  have H := hide (lenA_any hb h0 S)
  clear S hb h0
  go_enter Tryz.func97, Tryz.ntmps97
  go_wp2_with (first | (go_at_call 143; refine (unhide H).mono ?_; rintro e w' ⟨rfl, rfl⟩) | (go_at_call 137; refine (firstA_any _ _ _ _).mono ?_; rintro e w' ⟨rfl, rfl⟩))
  go_ret
  exact ⟨rfl, rfl⟩
end Go.Proofs.YtamafdcnbcoegaaGreat
namespace Go.Proofs.YtamafdcnbcoegaaGreat
open Go.RowKit
attribute [local go_sem] Oper.semAt_some

/-- What the iterator reads. -/
structure IterAt (W : World) (b p o : Nat) (m : Nat) (nv mv : Value) (l : List (Nat × Value)) : Prop where
  c1 : W.cell? ⟨b, 0, none⟩ = some (.pointer (some ⟨p, o, none⟩))
  c2 : W.cell? ⟨b + 1, 0, none⟩ = some (.int .i64 m)
  s0 : W.cell? ⟨p, o, none⟩ = some nv
  s1 : W.cell? ⟨p, o + 1, none⟩ = some mv
  sh : ShelfIs W nv mv l

theorem look_at {l : List (Nat × Value)} (hs : (l.map (·.1)).Pairwise (· < ·)) {k : Nat} (hk : k < l.length) : look l (l[k].1 : Int) = some l[k].2 := by
  induction l generalizing k with
  | nil => simp at hk
  | cons x r ih =>
    rw [List.map_cons, List.pairwise_cons] at hs
    obtain ⟨h0, hs⟩ := hs
    cases k with
    | zero => rw [look_cons, List.getElem_cons_zero, if_pos rfl]
    | succ k =>
      have hk' : k < r.length := by simpa using hk
      rw [look_cons, List.getElem_cons_succ, if_neg, ih hs hk']
      have := h0 r[k].1 (List.mem_map.2 ⟨r[k], List.getElem_mem hk', rfl⟩)
      omega

set_option maxRecDepth 100000 in
set_option maxHeartbeats 2000000 in
theorem iterA_in (n lp b p o m : Nat) (nv mv : Value) (l : List (Nat × Value)) (A : AreA l) (J : Nat → World → Prop) (Jx : World → Prop)
    (hJI : ∀ i W, J i W → IterAt W b p o m nv mv l) (hJd : ∀ i W k, J i W → J i (W.drewN k))
    (hY : ∀ i W (h : i < l.length), i < m → J i W → YieldAt Fence.wide (n - 1) Tryz.prog lp #[.int .i64 (l[i].1 : Nat), l[i].2] W fun e W' => (e = .returned (.bool true) ∧ J (i + 1) W') ∨ (e = .returned (.bool false) ∧ Jx W'))
    (W : World) (h0 : J 0 W) :
    CallsIn Fence.wide n Tryz.prog 189 #[.func (.yield lp) #[] #[], .pointer (some ⟨b, 0, none⟩), .pointer (some ⟨b + 1, 0, none⟩)] W fun e W' => (∃ v, e = .returned v) ∧ (J (min m l.length) W' ∨ Jx W') := by
  have R := hJI 0 W h0
  obtain ⟨c1, c2, s0, s1, S⟩ := R
  have hlen := S.len
  have hll : (l.map (·.1)).length = l.length := List.length_map _
  obtain ⟨ce, hce⟩ : ∃ ce, ce = min m l.length := ⟨_, rfl⟩
  rw [← hce]
  have hce1 : ce ≤ m := by omega
  have hce2 : ce ≤ l.length := by omega
  have hmin : min (m : Int) (l.length : Int) = ce := by omega
  refine callsIn_of_wp Tryz.func189 rfl trivial ?_ rfl
  refine wpIn_wide.2 ?_
  simp only [Tryz.ntmps189, List.size_toArray, List.length_cons, List.length_nil, Nat.reduceAdd, Nat.reduceSub, Array.replicate_succ, Array.replicate_zero, List.push_toArray, List.append_toArray, List.nil_append, List.cons_append]
  rcases S.nums.cases with ⟨hnv, hlz⟩ | ⟨g, cap, cur, hnv, hh, hn, hc, hz, htk⟩
  · subst hnv
    obtain rfl : l = [] := by simpa using hlz
    obtain rfl : ce = 0 := by simpa using hce2
    have hmin0 : min (m : Int) 0 = 0 := by omega
    clear S hll hmin hce hce1 hce2 hlz
    go_wp2
    go_quiet (fail)
    go_wp2
    go_loopw [5, 19] (fun _ i wr => i = .int .i64 0 ∧ J 0 wr) (fun _ _ _ => 0)
    case atStart => exact ⟨rfl, hJd 0 W _ h0⟩
    case round =>
      obtain ⟨rfl, hJ⟩ := hrel
      go_wp2
      refine bodyPost_end (results_none rfl _ _ _) rfl ?_
      exact ⟨⟨_, rfl⟩, .inl hJ⟩
  · rw [hll] at hnv hn
    subst hnv
    clear S htk hll
    replace hce := hide hce
    go_wp2
    go_quiet (fail)
    go_wp2
    go_loopw [5, 19] (fun _ i wr => ∃ k : Nat, k ≤ ce ∧ i = .int .i64 k ∧ J k wr) (fun _ i _ => l.length - (intOf i).toNat)
    case atStart => exact ⟨0, by omega, rfl, hJd 0 W _ h0⟩
    case round =>
      obtain ⟨k, hk, rfl, hJ⟩ := hrel
      by_cases hlt : k < ce
      · have hkl : k < l.length := by omega
        obtain ⟨c1, c2, s0, s1, S⟩ := hJI k wr hJ
        obtain ⟨x1, x2, hx⟩ := A l[k] (List.getElem_mem hkl)
        have cn : wr.cell? ⟨g, k, none⟩ = some (.int .i64 (l[k].1 : Int)) := by
          rw [S.nums.cell' (by simpa using hkl)]
          simp [List.getD_eq_getElem?_getD, hkl]
        have hrun := (run_lookup_i (P := Tryz.prog) (w := wr) (t := 137) Tryz.underlying137 Tryz.underlying3 (zero_A wr) S.map (l[k].1 : Int)).2
        rw [look_at S.sorted hkl, hx] at hrun
        have hY1 := hY k wr hkl (by omega) hJ
        rw [hx] at hY1
        simp only [Option.getD_some, recA] at hrun hY1
        obtain ⟨fn, tmps, assign, body, hy, hR⟩ := hY1
        clear S hx
        generalize l[k].1 = xn at *
        go_upto_region 3 with fail
        refine (wpIn_wide (n := n)).1 ?_
        gi_wp2
        refine ⟨fun h => by simp [Fence.wide] at h, hR.mono ?_⟩
        rintro e W3 (⟨rfl, hJ3⟩ | ⟨rfl, hJx3⟩)
        · gi_wp2
          go_wp2
          go_roundw
          case rel => exact ⟨k + 1, by omega, by go_num, hJ3⟩
          case measure => simp [intOf]; omega
        · gi_wp2
          go_wp2
          refine bodyPost_ret (results_none rfl _ _ _) rfl ?_
          exact ⟨⟨_, rfl⟩, .inr hJx3⟩
      · obtain rfl : k = ce := by omega
        go_wp2
        refine bodyPost_end (results_none rfl _ _ _) rfl ?_
        exact ⟨⟨_, rfl⟩, .inl hJ⟩
end Go.Proofs.YtamafdcnbcoegaaGreat
namespace Go.Proofs.YtamafdcnbcoegaaGreat
open Go.RowKit

/-- All blocks but two are the same. -/
structure Same2 (D : Nat) (W W' : World) : Prop where
  os : W'.os = W.os
  tape : W'.tape = W.tape
  output : W'.output = W.output
  size : W'.heap.size = W.heap.size
  rest : ∀ k, k ≠ D → k ≠ D + 1 → W'.heap[k]? = W.heap[k]?
theorem same2_put (D : Nat) (W : World) (o : Obj) : Same2 D W (W.putObj (D + 1) o) :=
  ⟨rfl, rfl, rfl, World.putObj_size, fun _ _ h => World.putObj_heap_other h⟩
theorem same2_drew (D : Nat) (W : World) (n : Nat) : Same2 D W (W.drewN n) := ⟨rfl, rfl, rfl, rfl, fun _ _ _ => rfl⟩

/-- How a round's body must end. -/
def roundEnd (D : Nat) (I : World → Prop) (W : World) : Exit → Act → World → Prop
  | .normal, _, W' => W'.heap[D]? = W.heap[D]? ∧ W'.heap[D + 1]? = W.heap[D + 1]? ∧ I W'
  | _, _, _ => False

theorem range_first {g : Operand} {ps : Array Tmp} {assign body : Code} {Q : Exit → Act → World → Prop} {a : Act} {w : World} (n b p o m : Nat) (nv mv : Value) (l : List (Nat × Value)) (A : AreA l)
    (hg : a.eval g = iterA b) (hps : ps.size = 2) (I : Nat → World → Prop) (hI : ∀ i W W', I i W → Same2 w.heap.size W W' → I i W') (hIt : ∀ i W, I i W → IterAt W b p o m nv mv l)
    (h0 : ∀ W, Below w.heap.size w W → W.heap.size = w.heap.size + 2 → I 0 W)
    (hround : ∀ i (hi : i < l.length) W, i < m → I i W → w.heap.size + 2 ≤ W.heap.size →
      assign.wpIn (Fence.wide.inRound (w.heap.size + 1)) (n - 1 - 1) Tryz.prog (Exit.then (fun a₁ W₁ => (W₁.heap[w.heap.size]? = W.heap[w.heap.size]? ∧ W₁.heap[w.heap.size + 1]? = W.heap[w.heap.size + 1]?) ∧
          ∀ W₂, Same2 w.heap.size W₁ W₂ → body.wpIn (Fence.wide.inRound (w.heap.size + 1)) (n - 1 - 1) Tryz.prog (roundEnd w.heap.size (I (i + 1)) W₂) a₁ W₂) (fun _ _ _ => False))
        { tmps := (ps.zip #[.int .i64 (l[i].1 : Nat), l[i].2]).foldl (fun t (p, v) => t.setIfInBounds p v) a.tmps, defers := [] } W)
    (hsz : ∀ i W, I i W → w.heap.size + 2 ≤ W.heap.size)
    (hdone : ∀ W, I (min m l.length) W → W.heap[w.heap.size]? = some (.deferred (some [])) → Q .normal { a with defers := { target := .collected w.heap.size, args := #[] } :: a.defers } W) :
    (Code.rangeFunc g ps assign body).wpIn Fence.wide n Tryz.prog Q a w := by
  refine wpIn_rangeFunc ?_
  intro fn hfn
  obtain ⟨rec, hrec⟩ : ∃ rec : LoopState → Loop, rec = fun st => { state := st, pending := none, fn, tmps := a.tmps, params := ps, assign, body, defers := w.heap.size } := ⟨_, rfl⟩
  obtain ⟨W1, hW1⟩ : ∃ W1, (w.alloc (.deferred (some []))).alloc (.loop (rec .ready)) = W1 := ⟨_, rfl⟩
  have hL1 : W1.heap[w.heap.size + 1]? = some (.loop (rec .ready)) := by
    rw [← hW1]
    have := World.alloc_heap_new (w.alloc (.deferred (some []))) (.loop (rec .ready))
    rwa [World.size_alloc] at this
  have hK1 : W1.heap[w.heap.size]? = some (.deferred (some [])) := by
    rw [← hW1]
    exact (Below.heap_alloc _ _ _ (by simp)).trans (World.alloc_heap_new w _)
  have hB1 : Below w.heap.size w W1 := by
    rw [← hW1]
    exact ((Below.refl _ w).alloc (Nat.le_refl _) _).alloc (by simp) _
  have hS1 : W1.heap.size = w.heap.size + 2 := by rw [← hW1]; simp
  have eg : ∀ args w, (callFunc 189 args).run Tryz.prog w = .ok (.enter 189 args) w := enters_of Tryz.func189 (by kernel_rfl) rfl
  refine ⟨w.heap.size + 1, [{ target := .collected w.heap.size, args := #[] }], W1, { target := .fn (.func 189) #[.pointer (some ⟨b, 0, none⟩), .pointer (some ⟨b + 1, 0, none⟩)], args := #[.func (.yield (w.heap.size + 1)) #[] #[]] }, W1, 189,
    #[.func (.yield (w.heap.size + 1)) #[] #[], .pointer (some ⟨b, 0, none⟩), .pointer (some ⟨b + 1, 0, none⟩)], W1, ?_, ?_, ?_, ?_, fun h => by simp [Fence.wide] at h, ?_⟩
  · rw [← hW1, hrec]; exact run_enterLoop_outer _ _ _ _ _
  · simp only [resolve, hg]
    simp [go_sem, iterA]
  · intro f' _; trivial
  · simp [invoke, go_sem, eg]
  · refine (iterA_in (n - 1) (w.heap.size + 1) b p o m nv mv l A
      (fun i W => I i W ∧ W.heap[w.heap.size + 1]? = some (.loop (rec .ready)) ∧ W.heap[w.heap.size]? = some (.deferred (some []))) (fun _ => False)
      (fun i W h => hIt i W h.1) (fun i W k h => ⟨hI i W _ h.1 (same2_drew _ W k), h.2.1, h.2.2⟩) ?_ W1 ⟨h0 W1 hB1 hS1, hL1, hK1⟩).mono ?_
    · rintro i W hi him ⟨hi0, hl, hk⟩
      have hlt : w.heap.size + 1 < W.heap.size := (Array.getElem?_eq_some_iff.1 hl).1
      have hy := run_yield (P := Tryz.prog) (args := #[.int .i64 (l[i].1 : Nat), l[i].2]) hl (by rw [hrec]; simpa using hps.symm)
      rw [hrec] at hy
      refine ⟨fn, _, assign, body, hy, roundIn_of_wpIn hfn (wpIn_mono (hround i hi W him hi0 (hsz i W hi0)) ?_)⟩
      rintro e a₁ W₁ he
      cases e with
      | normal =>
        obtain ⟨⟨e1, e2⟩, hbody⟩ := he
        have hl1 : W₁.heap[w.heap.size + 1]? = some (.loop (rec .ready)) := e2.trans hl
        have hk1 : W₁.heap[w.heap.size]? = some (.deferred (some [])) := e1.trans hk
        have hlt1 : w.heap.size + 1 < W₁.heap.size := (Array.getElem?_eq_some_iff.1 hl1).1
        refine ⟨_, run_beginRound hl1 (by rw [hrec]), wpIn_mono (hbody _ (same2_put _ W₁ _)) ?_⟩
        rintro e2 a₂ W₃ hp
        cases e2 with
        | normal =>
          obtain ⟨f1, f2, f3⟩ := hp
          have hl3 : W₃.heap[w.heap.size + 1]? = some (.loop { rec .ready with state := .busy }) := f2.trans (World.putObj_heap_same hlt1)
          have hk3 : W₃.heap[w.heap.size]? = some (.deferred (some [])) := (f1.trans (World.putObj_heap_other (by omega))).trans hk1
          refine ⟨_, _, run_endRound none hl3, .inl ⟨rfl, hI _ _ _ f3 (same2_put _ W₃ _), ?_, ?_⟩⟩
          · rw [World.putObj_heap_same (Array.getElem?_eq_some_iff.1 hl3).1, hrec]
            rfl
          · exact (World.putObj_heap_other (by omega)).trans hk3
        | ret => exact hp.elim
        | exit id => exact hp.elim
        | goto t => exact hp.elim
        | panic c => exact hp.elim
        | outgrown => exact hp.elim
      | ret => exact he.elim
      | exit id => exact he.elim
      | goto t => exact he.elim
      | panic c => exact he.elim
      | outgrown => exact he.elim
    · rintro e W' ⟨⟨v, rfl⟩, ⟨hi, hl, hk⟩ | h⟩
      · have := run_endLoop (P := Tryz.prog) hl (by rw [hrec]; simp)
        rw [hrec] at this
        exact ⟨none, _, this, hdone _ (hI _ _ _ hi (same2_put _ W' _)) ((World.putObj_heap_other (by omega)).trans hk)⟩
      · exact h.elim
end Go.Proofs.YtamafdcnbcoegaaGreat
namespace Go.Proofs.YtamafdcnbcoegaaGreat
open Go.RowKit

/-- A record of an agent, as a thing on a shelf. -/
def recU  : Value := .agg #[]
def zeroU : Value := .agg #[]
theorem zero_U (w : World) : (zeroValue 225).run Tryz.prog w = .ok zeroU w := Tryz.zeroValue225 w
def AreU (l : List (Nat × Value)) : Prop := ∀ x ∈ l, x.2 = recU 
theorem areU_look {l : List (Nat × Value)} (h : AreU l) (k : Int) : (look l k = some (recU )) ∨ look l k = none := by
  cases hv : look l k with
  | none => exact .inr rfl
  | some v =>
    obtain ⟨x, hx, _, rfl⟩ := look_mem hv
    have e := h x hx
    exact .inl (by rw [e])

set_option maxHeartbeats 400000 in
theorem hasU_any {w : World} {p o : Nat} {arr : Array Value} {t : TypeId} {nv mv : Value} {l : List (Nat × Value)} (hb : w.heap[p]? = some (.cells arr t (0, 0))) (h1 : arr[o + 1]? = some mv) (S : ShelfIs w nv mv l) (A : AreU l) (n : Int) :
    Calls Tryz.prog 190 #[.pointer (some ⟨p, o, none⟩), .int .i64 n] w fun e w' => e = .returned (.bool (look l n).isSome) ∧ Below w.heap.size w w' := by
  have c1 : w.cell? ⟨p, o + 1, none⟩ = some mv := (blk_cell hb).trans h1
  have hrun := (run_lookup_i (P := Tryz.prog) (w := w) (t := 143) Tryz.underlying143 Tryz.underlying3 (zero_U w) S.map n).1
  clear S hb h1
  rcases areU_look A n with ⟨h⟩ | h
  all_goals
    rw [h] at hrun ⊢
    simp only [Option.getD_some, Option.getD_none, Option.isSome_some, Option.isSome_none, recU, zeroU] at hrun ⊢
    clear h A
    go_enter Tryz.func190, Tryz.ntmps190
    go_wp2
    go_ret
    refine ⟨rfl, ?_⟩
    exact (Below.refl _ _).alloc (Nat.le_refl _) _
set_option maxRecDepth 100000 in
set_option maxHeartbeats 1000000 in
theorem putU_any {w : World} {p o : Nat} {t : TypeId} {arr : Array Value} {nv mv : Value} {l : List (Nat × Value)} (S : ShAt w p o t arr nv mv l) (hl : l.length < 1000) (n : Nat)  :
    Calls Tryz.prog 156 #[.pointer (some ⟨p, o, none⟩), .int .i64 n, recU ] w fun e w' => e = .returned (.tuple #[]) ∧ ShStep w w' p o t arr nv mv (putL l n (recU )) := by
  obtain ⟨hbW, h0, h1, S, ht⟩ := S
  obtain ⟨mv0, hmv0⟩ : ∃ m, m = mv := ⟨_, rfl⟩
  rw [← hmv0]
  have hmv0 := hide hmv0
  have c0 : w.cell? ⟨p, o, none⟩ = some nv := (blk_cell hbW).trans h0
  have c1 : w.cell? ⟨p, o + 1, none⟩ = some mv := (blk_cell hbW).trans h1
  unfold recU
  have hp := lt_of_block hbW
  go_enter Tryz.func156, Tryz.ntmps156
  go_upto_region 1 with fail
  refine wp_world (fun x => x.heap[p]? = some (.cells arr t (0, 0)) ∧ x.heap[w.heap.size]? = some (.cells #[] 225 (0, 0)) ∧ ShelfIs x nv mv l ∧ Far (fun _ => False) w x ∧ w.heap.size < x.heap.size) ?_ ?_
  · have hf : Far (fun _ => False) w (w.alloc (.cells #[] 225)) := far_below ((Below.refl _ _).alloc (Nat.le_refl _) _)
    exact ⟨hf.blk hbW id, heap_alloc_new w _, S.far hf (fun _ _ h => h), hf, by simp⟩
  clear c0 c1 S
  rintro x ⟨hb, hbox, S, hf, hz⟩
  have c0 : x.cell? ⟨p, o, none⟩ = some nv := (blk_cell hb).trans h0
  have c1 : x.cell? ⟨p, o + 1, none⟩ = some mv := (blk_cell hb).trans h1
  have hfr : x.frozen? ⟨p, o + 1, none⟩ = false := by simp [World.frozen?, hb]
  have hmm := @run_makeMap Tryz.prog
  have eqN : ∀ y : World, (binOp .eql 143 (.map none) (.map none)).run Tryz.prog y = .ok (.bool true) y := fun y => by kernel_rfl
  have eqS : ∀ (y : World) (m : Nat), (binOp .eql 143 (.map (some m)) (.map none)).run Tryz.prog y = .ok (.bool false) y := fun y m => by kernel_rfl
  have pM : (x.alloc (.map #[] 0)).heap[p]? = some (.cells arr t (0, 0)) := (Below.heap_alloc x _ p (lt_of_block hb)).trans hb
  have cM : (x.alloc (.map #[] 0)).cell? ⟨p, o + 1, none⟩ = some mv := (blk_cell pM).trans h1
  have fM : (x.alloc (.map #[] 0)).frozen? ⟨p, o + 1, none⟩ = false := by simp [World.frozen?, pM]
  rcases S.map with ⟨rfl, hm⟩ | ⟨mb, rfl, hm⟩
  all_goals
    go_upto_region 3 with fail
    refine wp_world (fun y => ∃ mb, y.heap[p]? = some (.cells (arr.setIfInBounds (o + 1) (.map (some mb))) t (0, 0)) ∧ y.heap[w.heap.size]? = some (.cells #[] 225 (0, 0)) ∧ NumsAt y nv (l.map (·.1)) ∧ MapAt y mb (look l) ∧
      Far (fun k => k = p) w y ∧ w.heap.size < y.heap.size ∧ (mapBlock mv0 = some mb ∨ w.heap.size ≤ mb)) ?_ ?_
  · refine ⟨x.heap.size, blk_set pM, (blk_set_ne (by omega)).trans ((Below.heap_alloc x _ _ hz).trans hbox), ?_, ?_, ?_, ?_, .inr (Nat.le_of_lt hz)⟩
    · exact S.nums.keep (fun g hg => (blk_set_ne (fun e => S.ne hb ht (.inl (by rw [← e]; exact hg)))).trans (Below.heap_alloc x _ g (World.ownsRow.lt S.nums g hg).2))
    · rw [hm]
      exact (mapAt_new x).keep (blk_set_ne (by have := lt_of_block hb; omega))
    · exact ((hf.mono (fun _ _ h => h.elim)).trans (far_below ((Below.refl _ x).alloc (Nat.le_refl _) _)) (fun _ _ h => h)).trans (far_set _ p (o + 1) _) (fun _ _ h => h)
    · simp; omega
  rotate_left
  · refine ⟨mb, by rw [set_same h1]; exact hb, hbox, S.nums, hm, hf.mono (fun _ _ h => h.elim), hz, .inl (by rw [unhide hmv0]; rfl)⟩
  all_goals
    have hs := hide S.sorted
    clear c0 c1 pM cM fM hfr hbox S hm hb hz hmm eqN eqS hf hp
    rintro y ⟨mb', hb, hbox, N, M, hfY, hz, hloc⟩
    have h0s : o < arr.size := (Array.getElem?_eq_some_iff.1 h0).1
    have h1s : o + 1 < arr.size := (Array.getElem?_eq_some_iff.1 h1).1
    have a0 : (arr.setIfInBounds (o + 1) (.map (some mb')))[o]? = some nv := by rw [Array.getElem?_setIfInBounds_ne (by omega)]; exact h0
    have a1 : (arr.setIfInBounds (o + 1) (.map (some mb')))[o + 1]? = some (.map (some mb')) := by simp [h1s]
    have c0 : y.cell? ⟨p, o, none⟩ = some nv := (blk_cell hb).trans a0
    have hk := keys_putL (v := recU ) (n := n) (unhide hs)
    have hsr := search_any N (unhide hs) (by simp; omega) n
    have hcl : (l.map (·.1)).countP (· < n) ≤ (l.map (·.1)).length := List.countP_le_length
    have hnl : (l.map (·.1)).length < 1000 := by simpa using hl
    generalize (l.map (·.1)).countP (· < n) = k at hk hsr hcl
    generalize (l.map (·.1)).contains n = c at hk hsr
    generalize l.map (·.1) = ns at hk hsr hcl N hnl
    replace hk := hide hk
    replace hsr := hide hsr
    cases c
    · go_upto_region 4 with (go_at_call 132; refine (unhide hsr).mono ?_; rintro e y1 ⟨rfl, q, rfl⟩)
      go_upto_region 6 with fail
      refine (insert_any (w := (y.drewN q).alloc (.cells #[.int .i64 n] 3)) (ns := ns) (N.keep (fun g hg => Below.heap_alloc (y.drewN q) _ g (World.ownsRow.lt N g hg).2)) (by omega) k n y.heap.size hcl (heap_alloc_new (y.drewN q) _) (fun e => by have := (World.ownsRow.lt N _ e).2; omega)).mono ?_
      rintro e z ⟨nv', rfl, hN', hF', hL'⟩
      have hbz := hF'.blk ((Below.heap_alloc (y.drewN q) _ p (lt_of_block hb)).trans hb) (fun e => (RowO.of_own N).ne hb (fun e => ht e.symm) e)
      have hxz := hF'.blk ((Below.heap_alloc (y.drewN q) _ _ hz).trans hbox) (fun e => (RowO.of_own N).ne hbox (by decide) e)
      have cz := (blk_cell hbz).trans a0
      have fz : z.frozen? ⟨p, o, none⟩ = false := by simp [World.frozen?, hbz]
      obtain ⟨ns', hns'⟩ : ∃ x, x = ns.take k ++ n :: ns.drop k := ⟨_, rfl⟩
      rw [← hns'] at hN'
      obtain ⟨g', cap', rfl⟩ := own_shape hN' (by rw [hns']; simp only [List.length_append, List.length_cons]; omega)
      replace hns' := hide hns'
      go_upto_region 6 with fail
      refine wp_world (fun z => ∃ nv', z.heap[p]? = some (.cells ((arr.setIfInBounds o nv').setIfInBounds (o + 1) (.map (some mb'))) t (0, 0)) ∧ z.heap[w.heap.size]? = some (.cells #[] 225 (0, 0)) ∧ NumsAt z nv' ((putL l n (recU )).map (·.1)) ∧ MapAt z mb' (look l) ∧
        Far (fun k => k = p ∨ nv.ownBlock = some k) w z ∧ Loc w nv nv') ?_ ?_
      · have hne : nv.ownBlock ≠ some mb' := N.notMap M
        have hpn : ∀ g, (Value.slice (some ⟨g', 0, none⟩) ns'.length cap').ownBlock = some g → g ≠ p := fun g hg e => (RowO.of_own hN').ne hbz (fun e => ht e.symm) (by rw [hg, e])
        have hk' := unhide hk
        simp only [Bool.false_eq_true, if_false] at hk'
        have hfal : Far (fun _ => False) y ((y.drewN q).alloc (.cells #[.int .i64 n] 3)) := (far_drewN (fun _ => False) y q).trans (far_below ((Below.refl _ _).alloc (Nat.le_refl _) _)) (fun _ _ h => h)
        have hfz : Far (fun b => b = p ∨ nv.ownBlock = some b) w z := (hfY.mono (fun _ _ h => .inl h)).trans ((hfal.mono (fun _ _ h => h.elim)).trans hF' (fun _ _ h => h)) (fun _ _ h => .inr h)
        refine ⟨_, ?_, (blk_set_ne (by have := lt_of_block hbW; omega)).trans hxz, ?_, ?_, hfz.trans (far_set z p o _) (fun _ _ h => .inl h), loc_less hL' (by simp; omega)⟩
        · rw [set_comm _ _ (show o ≠ o + 1 by omega)]
          exact blk_set hbz
        · rw [hk', ← unhide hns']
          exact hN'.keep (fun g hg => blk_set_ne (hpn g hg))
        · exact M.keep ((blk_set_ne (fun e => M.not_cells (by rw [e]; exact hb))).trans ((hF'.rest _ (by have := M.lt; simp; omega) hne).trans (hfal.rest _ M.lt id)))
      · skip
        rintro z ⟨nv', hb, hbox, N', M, hf, hl'⟩
        obtain ⟨ob, hU, hM⟩ := run_update_i (P := Tryz.prog) (w := z) (t := 143) Tryz.underlying143 Tryz.underlying3 M n (recU )
        have hU' := hU z.drew rfl
        unfold recU at hU'
        have c1 : z.cell? ⟨p, o + 1, none⟩ = some (.map (some mb')) := (blk_cell hb).trans (by simp [h1s])
        go_region
        refine bodyPost_end (results_none rfl _ _ _) rfl ⟨rfl, ?_⟩
        exact put_end (v := recU ) (W := { z.drew with heap := z.drew.heap.setIfInBounds mb' ob }) h0s h1s hb ht N' M hf hl' hloc hM ((far_drewN _ z 1).trans (far_block mb' ob) (fun _ _ h => h)) (unhide hs) hl
    · go_upto_region 4 with (go_at_call 132; refine (unhide hsr).mono ?_; rintro e y1 ⟨rfl, q, rfl⟩)
      go_upto_region 6 with fail
      refine wp_world (fun z => ∃ nv', z.heap[p]? = some (.cells ((arr.setIfInBounds o nv').setIfInBounds (o + 1) (.map (some mb'))) t (0, 0)) ∧ z.heap[w.heap.size]? = some (.cells #[] 225 (0, 0)) ∧ NumsAt z nv' ((putL l n (recU )).map (·.1)) ∧ MapAt z mb' (look l) ∧
        Far (fun k => k = p ∨ nv.ownBlock = some k) w z ∧ Loc w nv nv') ?_ ?_
      · have hk' := unhide hk
        simp only [if_true] at hk'
        refine ⟨nv, ?_, hbox, by rw [hk']; exact N, M, (hfY.mono (fun _ _ h => .inl h)).trans (far_drewN _ y q) (fun _ _ h => h), .inr (.inl rfl)⟩
        rw [set_same h0]
        exact hb
      · skip
        rintro z ⟨nv', hb, hbox, N', M, hf, hl'⟩
        obtain ⟨ob, hU, hM⟩ := run_update_i (P := Tryz.prog) (w := z) (t := 143) Tryz.underlying143 Tryz.underlying3 M n (recU )
        have hU' := hU z.drew rfl
        unfold recU at hU'
        have c1 : z.cell? ⟨p, o + 1, none⟩ = some (.map (some mb')) := (blk_cell hb).trans (by simp [h1s])
        go_region
        refine bodyPost_end (results_none rfl _ _ _) rfl ⟨rfl, ?_⟩
        exact put_end (v := recU ) (W := { z.drew with heap := z.drew.heap.setIfInBounds mb' ob }) h0s h1s hb ht N' M hf hl' hloc hM ((far_drewN _ z 1).trans (far_block mb' ob) (fun _ _ h => h)) (unhide hs) hl
end Go.Proofs.YtamafdcnbcoegaaGreat
namespace Go.Proofs.YtamafdcnbcoegaaGreat
open Go.RowKit


set_option maxRecDepth 100000 in
set_option maxHeartbeats 1000000 in
theorem clearU_any {w : World} {p o : Nat} {t : TypeId} {arr : Array Value} {nv mv : Value} {l : List (Nat × Value)} (S : ShAt w p o t arr nv mv l) :
    Calls Tryz.prog 154 #[.pointer (some ⟨p, o, none⟩)] w fun e w' => e = .returned (.tuple #[]) ∧ ShStep w w' p o t arr nv mv [] := by
  obtain ⟨hbW, h0, h1, S, ht⟩ := S
  have h0s : o < arr.size := (Array.getElem?_eq_some_iff.1 h0).1
  have h1s : o + 1 < arr.size := (Array.getElem?_eq_some_iff.1 h1).1
  obtain ⟨mv0, hmv0⟩ : ∃ m, m = mv := ⟨_, rfl⟩
  rw [← hmv0]
  replace hmv0 := hide hmv0
  have c1 : w.cell? ⟨p, o + 1, none⟩ = some mv := (blk_cell hbW).trans h1
  have e0 := S.nums.cases
  have hm : (mv = .map none ∧ ∀ ty, (Builtin.clear_ #[143] ty #[.map none]).run Tryz.prog w = .ok (.tuple #[]) w) ∨
      ∃ b o, mv = .map (some b) ∧ b ≠ p ∧ nv.ownBlock ≠ some b ∧ (∀ ty, (Builtin.clear_ #[143] ty #[.map (some b)]).run Tryz.prog w = .ok (.tuple #[]) { w with heap := w.heap.setIfInBounds b o }) ∧ MapAt { w with heap := w.heap.setIfInBounds b o } b (fun _ => none) := by
    rcases S.map with ⟨rfl, hm⟩ | ⟨mb, rfl, hm⟩
    · exact .inl ⟨rfl, fun ty => run_clear_n Tryz.underlying143⟩
    · obtain ⟨ob, hU, hM⟩ := run_clear_m (P := Tryz.prog) (w := w) (t := 143) Tryz.underlying143 hm
      exact .inr ⟨mb, ob, rfl, fun e => hm.not_cells (by rw [e]; exact hbW), S.nums.notMap hm, fun ty => hU ty w rfl, hM⟩
  rcases hm with ⟨rfl, hrun⟩ | ⟨mb, ob, rfl, hmp, hmn, hrun, hM⟩
  all_goals
    go_enter Tryz.func154, Tryz.ntmps154
    go_upto_region 1 with fail
    refine wp_world (fun x => x.heap[p]? = some (.cells arr t (0, 0)) ∧ NumsAt x nv (l.map (·.1)) ∧ MapV x mv0 (look []) ∧ Far (fun k => k = p ∨ ShU nv mv0 k) w x) ?_ ?_
  · exact ⟨hbW, S.nums, by rw [unhide hmv0]; exact .inl ⟨rfl, look_nil⟩, Far.refl _ _⟩
  rotate_left
  · have hf := far_block (w := w) mb ob
    refine ⟨hf.blk hbW (fun e => hmp e.symm), S.nums.keep (fun g hg => hf.rest g (World.ownsRow.lt S.nums g hg).2 (fun e => hmn (by rw [hg, e]))), by rw [unhide hmv0]; exact .inr ⟨mb, rfl, by rw [look_nil]; exact hM⟩, hf.mono (fun k _ e => .inr (.inr (by rw [unhide hmv0, e]; rfl)))⟩
  all_goals
    clear S
    rintro x ⟨hb, N, M, hf⟩
    have c0 : x.cell? ⟨p, o, none⟩ = some nv := (blk_cell hb).trans h0
    have f0 : x.frozen? ⟨p, o, none⟩ = false := by simp [World.frozen?, hb]
    rcases e0 with ⟨rfl, _⟩ | ⟨g, cap, cur, rfl, hh, hn, hc, hz, htk⟩
    · go_wp2
      refine bodyPost_end (results_none rfl _ _ _) rfl ⟨rfl, ?_⟩
      refine ⟨⟨_, mv0, ⟨?_, ?_, ?_, ⟨numsAt_nil _, M.keep (fun b hb' => blk_set_ne (fun e => ?_)), by simp, by simp⟩, ht⟩, .inr (.inl rfl), .inl rfl⟩, hf.trans (far_set x p o _) (fun _ _ h => .inl h)⟩
      · have := blk_set (j := o) (v := .slice none 0 0) hb
        rw [set_same (i := o + 1)]
        · exact this
        · rw [Array.getElem?_setIfInBounds_ne (by omega), h1, unhide hmv0]
      · rw [Array.getElem?_setIfInBounds_ne (by omega)]; simp [h0s]
      · simp [h1s]
      · rcases M with ⟨h, _⟩ | ⟨b', h, hM'⟩
        · rw [h] at hb'; cases hb'
        · rw [h] at hb'; cases hb'; exact hM'.not_cells (by rw [e]; exact hb)
    · go_wp2
      refine bodyPost_end (results_none rfl _ _ _) rfl ⟨rfl, ?_⟩
      rcases N.cases with ⟨h, _⟩ | ⟨g', cap', cur', h, hh', hn', hc', hz', htk'⟩
      · cases h
      · injection h with h _ h3
        injection h with h
        injection h with h
        subst h h3
        have hgp : g ≠ p := fun e => by
          subst e
          rw [hh'] at hb
          injection hb with hb
          injection hb with _ hb _
          exact ht hb.symm
        refine ⟨⟨_, mv0, ⟨?_, ?_, ?_, ⟨numsAt_mk (ns := []) ((blk_set_ne hgp).trans hh') (Nat.zero_le _) hc hz' rfl, M.keep (fun b hb' => blk_set_ne (fun e => ?_)), by simp, by simp⟩, ht⟩, .inr (.inl rfl), .inl rfl⟩, hf.trans (far_set x p o _) (fun _ _ h => .inl h)⟩
        · rw [set_same (i := o + 1)]
          · exact blk_set (j := o) hb
          · rw [Array.getElem?_setIfInBounds_ne (by omega), h1, unhide hmv0]
        · rw [Array.getElem?_setIfInBounds_ne (by omega)]; simp [h0s]
        · simp [h1s]
        · rcases M with ⟨h, _⟩ | ⟨b', h, hM'⟩
          · rw [h] at hb'; cases hb'
          · rw [h] at hb'; cases hb'; exact hM'.not_cells (by rw [e]; exact hb)



end Go.Proofs.YtamafdcnbcoegaaGreat
namespace Go.Proofs.YtamafdcnbcoegaaGreat
open Go.RowKit

/-- A record of an agent, as a thing on a shelf. -/
def recI (m : Nat) : Value := .int .i64 m
def zeroI : Value := .int .i64 0
theorem zero_I (w : World) : (zeroValue 3).run Tryz.prog w = .ok zeroI w := Tryz.zeroValue3 w
def AreI (l : List (Nat × Value)) : Prop := ∀ x ∈ l, ∃ m, x.2 = recI m
theorem areI_look {l : List (Nat × Value)} (h : AreI l) (k : Int) : (∃ m, look l k = some (recI m)) ∨ look l k = none := by
  cases hv : look l k with
  | none => exact .inr rfl
  | some v =>
    obtain ⟨x, hx, _, rfl⟩ := look_mem hv
    obtain ⟨m, e⟩ := h x hx
    exact .inl ⟨m, by rw [e]⟩

set_option maxRecDepth 100000 in
set_option maxHeartbeats 1000000 in
theorem putI_any {w : World} {p o : Nat} {t : TypeId} {arr : Array Value} {nv mv : Value} {l : List (Nat × Value)} (S : ShAt w p o t arr nv mv l) (hl : l.length < 1000) (n : Nat) (m : Nat) :
    Calls Tryz.prog 139 #[.pointer (some ⟨p, o, none⟩), .int .i64 n, recI m] w fun e w' => e = .returned (.tuple #[]) ∧ ShStep w w' p o t arr nv mv (putL l n (recI m)) := by
  obtain ⟨hbW, h0, h1, S, ht⟩ := S
  obtain ⟨mv0, hmv0⟩ : ∃ m, m = mv := ⟨_, rfl⟩
  rw [← hmv0]
  have hmv0 := hide hmv0
  have c0 : w.cell? ⟨p, o, none⟩ = some nv := (blk_cell hbW).trans h0
  have c1 : w.cell? ⟨p, o + 1, none⟩ = some mv := (blk_cell hbW).trans h1
  unfold recI
  have hp := lt_of_block hbW
  go_enter Tryz.func139, Tryz.ntmps139
  refine wp_world (fun x => x.heap[p]? = some (.cells arr t (0, 0)) ∧ ShelfIs x nv mv l ∧ Far (fun _ => False) w x ∧ w.heap.size ≤ x.heap.size) ?_ ?_
  · exact ⟨hbW, S, Far.refl _ w, Nat.le_refl _⟩
  clear c0 c1 S
  rintro x ⟨hb, S, hf, hz⟩
  have c0 : x.cell? ⟨p, o, none⟩ = some nv := (blk_cell hb).trans h0
  have c1 : x.cell? ⟨p, o + 1, none⟩ = some mv := (blk_cell hb).trans h1
  have hfr : x.frozen? ⟨p, o + 1, none⟩ = false := by simp [World.frozen?, hb]
  have hmm := @run_makeMap Tryz.prog
  have eqN : ∀ y : World, (binOp .eql 140 (.map none) (.map none)).run Tryz.prog y = .ok (.bool true) y := fun y => by kernel_rfl
  have eqS : ∀ (y : World) (m : Nat), (binOp .eql 140 (.map (some m)) (.map none)).run Tryz.prog y = .ok (.bool false) y := fun y m => by kernel_rfl
  have pM : (x.alloc (.map #[] 0)).heap[p]? = some (.cells arr t (0, 0)) := (Below.heap_alloc x _ p (lt_of_block hb)).trans hb
  have cM : (x.alloc (.map #[] 0)).cell? ⟨p, o + 1, none⟩ = some mv := (blk_cell pM).trans h1
  have fM : (x.alloc (.map #[] 0)).frozen? ⟨p, o + 1, none⟩ = false := by simp [World.frozen?, pM]
  rcases S.map with ⟨rfl, hm⟩ | ⟨mb, rfl, hm⟩
  all_goals
    go_upto_region 2 with fail
    refine wp_world (fun y => ∃ mb, y.heap[p]? = some (.cells (arr.setIfInBounds (o + 1) (.map (some mb))) t (0, 0)) ∧ NumsAt y nv (l.map (·.1)) ∧ MapAt y mb (look l) ∧
      Far (fun k => k = p) w y ∧ w.heap.size ≤ y.heap.size ∧ (mapBlock mv0 = some mb ∨ w.heap.size ≤ mb)) ?_ ?_
  · refine ⟨x.heap.size, blk_set pM, ?_, ?_, ?_, ?_, .inr hz⟩
    · exact S.nums.keep (fun g hg => (blk_set_ne (fun e => S.ne hb ht (.inl (by rw [← e]; exact hg)))).trans (Below.heap_alloc x _ g (World.ownsRow.lt S.nums g hg).2))
    · rw [hm]
      exact (mapAt_new x).keep (blk_set_ne (by have := lt_of_block hb; omega))
    · exact ((hf.mono (fun _ _ h => h.elim)).trans (far_below ((Below.refl _ x).alloc (Nat.le_refl _) _)) (fun _ _ h => h)).trans (far_set _ p (o + 1) _) (fun _ _ h => h)
    · simp; omega
  rotate_left
  · refine ⟨mb, by rw [set_same h1]; exact hb, S.nums, hm, hf.mono (fun _ _ h => h.elim), hz, .inl (by rw [unhide hmv0]; rfl)⟩
  all_goals
    have hs := hide S.sorted
    clear c0 c1 pM cM fM hfr S hm hb hz hmm eqN eqS hf hp
    rintro y ⟨mb', hb, N, M, hfY, hz, hloc⟩
    have h0s : o < arr.size := (Array.getElem?_eq_some_iff.1 h0).1
    have h1s : o + 1 < arr.size := (Array.getElem?_eq_some_iff.1 h1).1
    have a0 : (arr.setIfInBounds (o + 1) (.map (some mb')))[o]? = some nv := by rw [Array.getElem?_setIfInBounds_ne (by omega)]; exact h0
    have a1 : (arr.setIfInBounds (o + 1) (.map (some mb')))[o + 1]? = some (.map (some mb')) := by simp [h1s]
    have c0 : y.cell? ⟨p, o, none⟩ = some nv := (blk_cell hb).trans a0
    have hk := keys_putL (v := recI m) (n := n) (unhide hs)
    have hsr := search_any N (unhide hs) (by simp; omega) n
    have hcl : (l.map (·.1)).countP (· < n) ≤ (l.map (·.1)).length := List.countP_le_length
    have hnl : (l.map (·.1)).length < 1000 := by simpa using hl
    generalize (l.map (·.1)).countP (· < n) = k at hk hsr hcl
    generalize (l.map (·.1)).contains n = c at hk hsr
    generalize l.map (·.1) = ns at hk hsr hcl N hnl
    replace hk := hide hk
    replace hsr := hide hsr
    cases c
    · go_upto_region 3 with (go_at_call 132; refine (unhide hsr).mono ?_; rintro e y1 ⟨rfl, q, rfl⟩)
      go_upto_region 5 with fail
      refine (insert_any (w := (y.drewN q).alloc (.cells #[.int .i64 n] 3)) (ns := ns) (N.keep (fun g hg => Below.heap_alloc (y.drewN q) _ g (World.ownsRow.lt N g hg).2)) (by omega) k n y.heap.size hcl (heap_alloc_new (y.drewN q) _) (fun e => by have := (World.ownsRow.lt N _ e).2; omega)).mono ?_
      rintro e z ⟨nv', rfl, hN', hF', hL'⟩
      have hbz := hF'.blk ((Below.heap_alloc (y.drewN q) _ p (lt_of_block hb)).trans hb) (fun e => (RowO.of_own N).ne hb (fun e => ht e.symm) e)
      have cz := (blk_cell hbz).trans a0
      have fz : z.frozen? ⟨p, o, none⟩ = false := by simp [World.frozen?, hbz]
      obtain ⟨ns', hns'⟩ : ∃ x, x = ns.take k ++ n :: ns.drop k := ⟨_, rfl⟩
      rw [← hns'] at hN'
      obtain ⟨g', cap', rfl⟩ := own_shape hN' (by rw [hns']; simp only [List.length_append, List.length_cons]; omega)
      replace hns' := hide hns'
      go_upto_region 5 with fail
      refine wp_world (fun z => ∃ nv', z.heap[p]? = some (.cells ((arr.setIfInBounds o nv').setIfInBounds (o + 1) (.map (some mb'))) t (0, 0)) ∧ NumsAt z nv' ((putL l n (recI m)).map (·.1)) ∧ MapAt z mb' (look l) ∧
        Far (fun k => k = p ∨ nv.ownBlock = some k) w z ∧ Loc w nv nv') ?_ ?_
      · have hne : nv.ownBlock ≠ some mb' := N.notMap M
        have hpn : ∀ g, (Value.slice (some ⟨g', 0, none⟩) ns'.length cap').ownBlock = some g → g ≠ p := fun g hg e => (RowO.of_own hN').ne hbz (fun e => ht e.symm) (by rw [hg, e])
        have hk' := unhide hk
        simp only [Bool.false_eq_true, if_false] at hk'
        have hfal : Far (fun _ => False) y ((y.drewN q).alloc (.cells #[.int .i64 n] 3)) := (far_drewN (fun _ => False) y q).trans (far_below ((Below.refl _ _).alloc (Nat.le_refl _) _)) (fun _ _ h => h)
        have hfz : Far (fun b => b = p ∨ nv.ownBlock = some b) w z := (hfY.mono (fun _ _ h => .inl h)).trans ((hfal.mono (fun _ _ h => h.elim)).trans hF' (fun _ _ h => h)) (fun _ _ h => .inr h)
        refine ⟨_, ?_, ?_, ?_, hfz.trans (far_set z p o _) (fun _ _ h => .inl h), loc_less hL' (by simp; omega)⟩
        · rw [set_comm _ _ (show o ≠ o + 1 by omega)]
          exact blk_set hbz
        · rw [hk', ← unhide hns']
          exact hN'.keep (fun g hg => blk_set_ne (hpn g hg))
        · exact M.keep ((blk_set_ne (fun e => M.not_cells (by rw [e]; exact hb))).trans ((hF'.rest _ (by have := M.lt; simp; omega) hne).trans (hfal.rest _ M.lt id)))
      · skip
        rintro z ⟨nv', hb, N', M, hf, hl'⟩
        obtain ⟨ob, hU, hM⟩ := run_update_i (P := Tryz.prog) (w := z) (t := 140) Tryz.underlying140 Tryz.underlying3 M n (recI m)
        have hU' := hU z rfl
        unfold recI at hU'
        have c1 : z.cell? ⟨p, o + 1, none⟩ = some (.map (some mb')) := (blk_cell hb).trans (by simp [h1s])
        go_wp2
        refine bodyPost_end (results_none rfl _ _ _) rfl ⟨rfl, ?_⟩
        exact put_end (v := recI m) (W := { z with heap := z.heap.setIfInBounds mb' ob }) h0s h1s hb ht N' M hf hl' hloc hM (far_block mb' ob) (unhide hs) hl
    · go_upto_region 3 with (go_at_call 132; refine (unhide hsr).mono ?_; rintro e y1 ⟨rfl, q, rfl⟩)
      go_upto_region 5 with fail
      refine wp_world (fun z => ∃ nv', z.heap[p]? = some (.cells ((arr.setIfInBounds o nv').setIfInBounds (o + 1) (.map (some mb'))) t (0, 0)) ∧ NumsAt z nv' ((putL l n (recI m)).map (·.1)) ∧ MapAt z mb' (look l) ∧
        Far (fun k => k = p ∨ nv.ownBlock = some k) w z ∧ Loc w nv nv') ?_ ?_
      · have hk' := unhide hk
        simp only [if_true] at hk'
        refine ⟨nv, ?_, by rw [hk']; exact N, M, (hfY.mono (fun _ _ h => .inl h)).trans (far_drewN _ y q) (fun _ _ h => h), .inr (.inl rfl)⟩
        rw [set_same h0]
        exact hb
      · skip
        rintro z ⟨nv', hb, N', M, hf, hl'⟩
        obtain ⟨ob, hU, hM⟩ := run_update_i (P := Tryz.prog) (w := z) (t := 140) Tryz.underlying140 Tryz.underlying3 M n (recI m)
        have hU' := hU z rfl
        unfold recI at hU'
        have c1 : z.cell? ⟨p, o + 1, none⟩ = some (.map (some mb')) := (blk_cell hb).trans (by simp [h1s])
        go_wp2
        refine bodyPost_end (results_none rfl _ _ _) rfl ⟨rfl, ?_⟩
        exact put_end (v := recI m) (W := { z with heap := z.heap.setIfInBounds mb' ob }) h0s h1s hb ht N' M hf hl' hloc hM (far_block mb' ob) (unhide hs) hl
end Go.Proofs.YtamafdcnbcoegaaGreat
namespace Go.Proofs.YtamafdcnbcoegaaGreat
open Go.RowKit


set_option maxRecDepth 100000 in
set_option maxHeartbeats 1000000 in
theorem clearI_any {w : World} {p o : Nat} {t : TypeId} {arr : Array Value} {nv mv : Value} {l : List (Nat × Value)} (S : ShAt w p o t arr nv mv l) :
    Calls Tryz.prog 153 #[.pointer (some ⟨p, o, none⟩)] w fun e w' => e = .returned (.tuple #[]) ∧ ShStep w w' p o t arr nv mv [] := by
  obtain ⟨hbW, h0, h1, S, ht⟩ := S
  have h0s : o < arr.size := (Array.getElem?_eq_some_iff.1 h0).1
  have h1s : o + 1 < arr.size := (Array.getElem?_eq_some_iff.1 h1).1
  obtain ⟨mv0, hmv0⟩ : ∃ m, m = mv := ⟨_, rfl⟩
  rw [← hmv0]
  replace hmv0 := hide hmv0
  have c1 : w.cell? ⟨p, o + 1, none⟩ = some mv := (blk_cell hbW).trans h1
  have e0 := S.nums.cases
  have hm : (mv = .map none ∧ ∀ ty, (Builtin.clear_ #[140] ty #[.map none]).run Tryz.prog w = .ok (.tuple #[]) w) ∨
      ∃ b o, mv = .map (some b) ∧ b ≠ p ∧ nv.ownBlock ≠ some b ∧ (∀ ty, (Builtin.clear_ #[140] ty #[.map (some b)]).run Tryz.prog w = .ok (.tuple #[]) { w with heap := w.heap.setIfInBounds b o }) ∧ MapAt { w with heap := w.heap.setIfInBounds b o } b (fun _ => none) := by
    rcases S.map with ⟨rfl, hm⟩ | ⟨mb, rfl, hm⟩
    · exact .inl ⟨rfl, fun ty => run_clear_n Tryz.underlying140⟩
    · obtain ⟨ob, hU, hM⟩ := run_clear_m (P := Tryz.prog) (w := w) (t := 140) Tryz.underlying140 hm
      exact .inr ⟨mb, ob, rfl, fun e => hm.not_cells (by rw [e]; exact hbW), S.nums.notMap hm, fun ty => hU ty w rfl, hM⟩
  rcases hm with ⟨rfl, hrun⟩ | ⟨mb, ob, rfl, hmp, hmn, hrun, hM⟩
  all_goals
    go_enter Tryz.func153, Tryz.ntmps153
    go_upto_region 1 with fail
    refine wp_world (fun x => x.heap[p]? = some (.cells arr t (0, 0)) ∧ NumsAt x nv (l.map (·.1)) ∧ MapV x mv0 (look []) ∧ Far (fun k => k = p ∨ ShU nv mv0 k) w x) ?_ ?_
  · exact ⟨hbW, S.nums, by rw [unhide hmv0]; exact .inl ⟨rfl, look_nil⟩, Far.refl _ _⟩
  rotate_left
  · have hf := far_block (w := w) mb ob
    refine ⟨hf.blk hbW (fun e => hmp e.symm), S.nums.keep (fun g hg => hf.rest g (World.ownsRow.lt S.nums g hg).2 (fun e => hmn (by rw [hg, e]))), by rw [unhide hmv0]; exact .inr ⟨mb, rfl, by rw [look_nil]; exact hM⟩, hf.mono (fun k _ e => .inr (.inr (by rw [unhide hmv0, e]; rfl)))⟩
  all_goals
    clear S
    rintro x ⟨hb, N, M, hf⟩
    have c0 : x.cell? ⟨p, o, none⟩ = some nv := (blk_cell hb).trans h0
    have f0 : x.frozen? ⟨p, o, none⟩ = false := by simp [World.frozen?, hb]
    rcases e0 with ⟨rfl, _⟩ | ⟨g, cap, cur, rfl, hh, hn, hc, hz, htk⟩
    · go_wp2
      refine bodyPost_end (results_none rfl _ _ _) rfl ⟨rfl, ?_⟩
      refine ⟨⟨_, mv0, ⟨?_, ?_, ?_, ⟨numsAt_nil _, M.keep (fun b hb' => blk_set_ne (fun e => ?_)), by simp, by simp⟩, ht⟩, .inr (.inl rfl), .inl rfl⟩, hf.trans (far_set x p o _) (fun _ _ h => .inl h)⟩
      · have := blk_set (j := o) (v := .slice none 0 0) hb
        rw [set_same (i := o + 1)]
        · exact this
        · rw [Array.getElem?_setIfInBounds_ne (by omega), h1, unhide hmv0]
      · rw [Array.getElem?_setIfInBounds_ne (by omega)]; simp [h0s]
      · simp [h1s]
      · rcases M with ⟨h, _⟩ | ⟨b', h, hM'⟩
        · rw [h] at hb'; cases hb'
        · rw [h] at hb'; cases hb'; exact hM'.not_cells (by rw [e]; exact hb)
    · go_wp2
      refine bodyPost_end (results_none rfl _ _ _) rfl ⟨rfl, ?_⟩
      rcases N.cases with ⟨h, _⟩ | ⟨g', cap', cur', h, hh', hn', hc', hz', htk'⟩
      · cases h
      · injection h with h _ h3
        injection h with h
        injection h with h
        subst h h3
        have hgp : g ≠ p := fun e => by
          subst e
          rw [hh'] at hb
          injection hb with hb
          injection hb with _ hb _
          exact ht hb.symm
        refine ⟨⟨_, mv0, ⟨?_, ?_, ?_, ⟨numsAt_mk (ns := []) ((blk_set_ne hgp).trans hh') (Nat.zero_le _) hc hz' rfl, M.keep (fun b hb' => blk_set_ne (fun e => ?_)), by simp, by simp⟩, ht⟩, .inr (.inl rfl), .inl rfl⟩, hf.trans (far_set x p o _) (fun _ _ h => .inl h)⟩
        · rw [set_same (i := o + 1)]
          · exact blk_set (j := o) hb
          · rw [Array.getElem?_setIfInBounds_ne (by omega), h1, unhide hmv0]
        · rw [Array.getElem?_setIfInBounds_ne (by omega)]; simp [h0s]
        · simp [h1s]
        · rcases M with ⟨h, _⟩ | ⟨b', h, hM'⟩
          · rw [h] at hb'; cases hb'
          · rw [h] at hb'; cases hb'; exact hM'.not_cells (by rw [e]; exact hb)


set_option maxHeartbeats 400000 in
theorem getI_any {w : World} {p o : Nat} {arr : Array Value} {t : TypeId} {nv mv : Value} {l : List (Nat × Value)} (hb : w.heap[p]? = some (.cells arr t (0, 0))) (h1 : arr[o + 1]? = some mv) (S : ShelfIs w nv mv l) (A : AreI l) (n : Int) :
    Calls Tryz.prog 191 #[.pointer (some ⟨p, o, none⟩), .int .i64 n] w fun e w' => e = .returned (.tuple #[(look l n).getD zeroI, .bool (look l n).isSome]) ∧ w' = w := by
  have c1 : w.cell? ⟨p, o + 1, none⟩ = some mv := (blk_cell hb).trans h1
  have hrun := (run_lookup_i (P := Tryz.prog) (w := w) (t := 140) Tryz.underlying140 Tryz.underlying3 (zero_I w) S.map n).1
  clear S hb h1
  rcases areI_look A n with ⟨m, h⟩ | h
  all_goals
    rw [h] at hrun ⊢
    simp only [Option.getD_some, Option.getD_none, Option.isSome_some, Option.isSome_none, recI, zeroI] at hrun ⊢
    clear h A
    go_enter Tryz.func191, Tryz.ntmps191
    go_wp2
    go_ret2
    exact ⟨rfl, rfl⟩


end Go.Proofs.YtamafdcnbcoegaaGreat
namespace Go.Proofs.YtamafdcnbcoegaaGreat
open Go.RowKit



theorem infoRI : (Tryz.prog.info? 3).map (fun i => (i.zero, i.size, i.bytes)) = some (some (.int .i64 0), 1, 8) := by kernel_rfl
set_option maxRecDepth 100000 in
set_option maxHeartbeats 2000000 in
theorem takeUpToI_any {w : World} {p o : Nat} {t : TypeId} {arr : Array Value} {nv mv : Value} {l : List (Nat × Value)} (S : ShAt w p o t arr nv mv l) (A : AreI l) (n : Nat) :
    Calls Tryz.prog 201 #[.pointer (some ⟨p, o, none⟩), .int .i64 n] w fun e w' => ∃ v, e = .returned v ∧
      w'.ownsRow w.heap.size 3 1 v (cutAt l n) (flat (l.take (cutAt l n))) ∧ ShTook w w' p o t arr nv mv (l.drop (cutAt l n)) := by
  obtain ⟨hbW, h0, h1, S, ht⟩ := S
  have h0s : o < arr.size := (Array.getElem?_eq_some_iff.1 h0).1
  have h1s : o + 1 < arr.size := (Array.getElem?_eq_some_iff.1 h1).1
  have c0 : w.cell? ⟨p, o, none⟩ = some nv := (blk_cell hbW).trans h0
  have hlen := S.len
  have hsr := search_any S.nums S.sorted (by simp; omega) n
  have hcut := cut_eq (n := n) S.sorted
  have hcl := cut_le l n
  have hk0 : (l.map (·.1)).countP (· < n) ≤ l.length := by have := List.countP_le_length (p := (· < n)) (l := l.map (·.1)); simpa using this
  obtain ⟨i0, hi, hz0, hz1, hz2⟩ := info_parts2 infoRI
  generalize cutAt l n = ce at *
  generalize (l.map (·.1)).countP (· < n) = k0 at *
  generalize (l.map (·.1)).contains n = c at *
  have hkl : (l.map (·.1)).length = l.length := List.length_map _
  have SS := hide S
  have HL := hide hkl
  replace hsr := hide hsr
  rcases S.nums.cases with ⟨hnv, hlz⟩ | ⟨g, cap, cur, hnv, hh, hn, hc, hz, htk⟩
  · subst hnv
    obtain rfl : l = [] := by simpa using hlz
    obtain rfl : ce = 0 := by simpa using hcl
    obtain rfl : k0 = 0 := by simpa using hk0
    have hc : c = false := by cases c <;> simp_all
    subst hc
    have hde := fun y : World => delete_any (numsAt_nil y) 0 0 (by omega) (by simp)
    simp only [show ((0 : Nat) : Int) = 0 from rfl, List.take_nil, List.drop_nil, List.nil_append] at hde
    have HDE := fun y => hide (hde y)
    clear S hkl hde hcut hk0 hcl hlz
    simp only [show ((0 : Nat) : Int) = 0 from rfl] at hsr
    go_enter Tryz.func201, Tryz.ntmps201
    go_upto_region 5 with (go_at_call 132; refine (unhide hsr).mono ?_; rintro e y ⟨rfl, q, rfl⟩)
    go_wp2
    go_loopw [5, 9, 29] (fun v5 _ i wr => v5 = .slice none 0 0 ∧ i = .int .i64 0 ∧ wr = w.drewN q) (fun _ _ i _ => 0)
    case atStart => exact ⟨rfl, rfl, rfl⟩
    case round =>
      obtain ⟨rfl, rfl, rfl⟩ := hrel
      go_upto_region 12 with fail
      refine (unhide (HDE _)).mono ?_
      rintro e z ⟨nv', rfl, N', hF', hown⟩
      obtain rfl : nv' = .slice none 0 0 := by
        rcases N'.cases with ⟨h, _⟩ | ⟨g', cap', cur', rfl, _⟩
        · exact h
        · cases hown
      have hfz : Far (fun _ => False) w z := (far_drewN (fun _ => False) w q).trans (hF'.mono (fun _ _ h => by cases h)) (fun _ _ h => h)
      have hbz := hfz.blk hbW id
      have cz := (blk_cell hbz).trans h0
      have fz : z.frozen? ⟨p, o, none⟩ = false := by simp [World.frozen?, hbz]
      replace N' := hide N'
      replace hfz := hide hfz
      clear hF' hown
      go_wp2
      go_ret
      have S0 := unhide SS
      have hE : z.setCell ⟨p, o, none⟩ (.slice none 0 0) = z.setCell ⟨p, o, none⟩ (.slice none 0 0) := rfl
      refine ⟨_, rfl, World.ownsRow_nil _ _ _ _, ⟨_, ⟨blk_set hbz, by simp [h0s], by rw [Array.getElem?_setIfInBounds_ne (by omega)]; exact h1, ⟨numsAt_nil _, (S0.far (unhide hfz) (fun _ _ h => h)).map.keep (fun b hb' => blk_set_ne (fun e => ?_)), by simp, by simp⟩, ht⟩, rfl⟩, ((unhide hfz).mono (fun _ _ h => h.elim)).trans (far_set z p o _) (fun _ _ h => .inl h)⟩
      exact S0.ne hbW ht (.inr (by rw [hb', e]))
  · rw [hkl] at hnv hn
    subst hnv
    have N0 := hide S.nums
    cases c
    all_goals
      simp only [if_true, if_false, Bool.false_eq_true, Nat.add_zero] at hcut
      clear S htk hkl
      try (rw [hcut] at hsr)
      have hcI : ((k0 : Int) + 1 = (ce : Int)) = ((k0 : Int) + 1 = (ce : Int)) := rfl
      try (have hcI : (k0 : Int) + 1 = ce := by omega)
      replace hcut := hide hcut
      go_enter Tryz.func201, Tryz.ntmps201
      go_upto_region 5 with (go_at_call 132; refine (unhide hsr).mono ?_; rintro e y ⟨rfl, q, rfl⟩)
    all_goals
      go_wp2
      go_loopw [5, 9, 29] (fun v5 _ i wr => ∃ k : Nat, k ≤ ce ∧ i = .int .i64 k ∧ wr.ownsRow w.heap.size 3 1 v5 k (flat (l.take k)) ∧ wr.heap[p]? = some (.cells arr t (0, 0)) ∧ NumsAt wr (.slice (some ⟨g, 0, none⟩) l.length cap) (l.map (·.1)) ∧ MapV wr mv (look (l.drop k)) ∧ Far (fun b => mapBlock mv = some b) w wr) (fun _ _ i _ => l.length - (intOf i).toNat)
      case atStart => exact ⟨0, by omega, rfl, World.ownsRow_nil _ _ _ _, hbW, (unhide SS).nums, by rw [List.drop_zero]; exact (unhide SS).map, far_drewN _ w q⟩
      case round =>
        obtain ⟨k, hk, rfl, ho, hb, N, M, hf⟩ := hrel
        by_cases hlt : k < ce
        · have hkl : k < l.length := by omega
          obtain ⟨m, hx⟩ := A l[k] (List.getElem_mem hkl)
          have hdr : l.drop k = l[k] :: l.drop (k + 1) := List.drop_eq_getElem_cons hkl
          have hlk : look (l.drop k) (l[k].1 : Int) = some l[k].2 := by rw [hdr, look_cons, if_pos rfl]
          have hsorted := (unhide SS).sorted
          have hgt : ∀ y ∈ l.drop (k + 1), l[k].1 < y.1 := fun y hy => by
            have h1 : ((l.drop k).map (·.1)).Pairwise (· < ·) := by rw [List.map_drop]; exact hsorted.drop
            rw [hdr, List.map_cons, List.pairwise_cons] at h1
            exact h1.1 y.1 (List.mem_map.2 ⟨y, hy, rfl⟩)
          have hdel := del_look hgt
          rw [← hdr] at hdel
          have htake : flat (l.take (k + 1)) = flat (l.take k) ++ vcells l[k].2 := by rw [← flat_snoc, List.take_add_one, List.getElem?_eq_getElem hkl]; rfl
          have c0 := (blk_cell hb).trans h0
          have c1 := (blk_cell hb).trans h1
          have cn : wr.cell? ⟨g, k, none⟩ = some (.int .i64 (l[k].1 : Int)) := by
            rw [N.cell' (by simpa using hkl)]
            simp [List.getD_eq_getElem?_getD, hkl]
          rcases M with ⟨rfl, hM⟩ | ⟨mb, rfl, hM⟩
          · rw [hM] at hlk; cases hlk
          have hrun := (run_lookup_i (P := Tryz.prog) (w := wr) (t := 140) Tryz.underlying140 Tryz.underlying3 (zero_I wr) (.inr ⟨mb, rfl, hM⟩) (l[k].1 : Int)).2
          rw [hlk, hx] at hrun
          rw [hx] at htake
          simp only [Option.getD_some, recI] at hrun
          have HT := hide htake
          have HD := hide hdel
          have HO := hide ho
          have HN := hide N
          have HM := hide hM
          have HF := hide hf
          have HX := hide hx
          clear ho N hM hf htake hdel hlk hx hdr hgt hsorted
          generalize hxn : l[k].1 = xn at *
          replace hxn := hide hxn
          have hsz := (unhide HF).size
          have hmb : mb < w.heap.size := (unhide SS).map.lt mb rfl
          have hpw := lt_of_block hbW
          have hk5 := fun g' (hg' : u5.ownBlock = some g') => World.ownsRow.lt (unhide HO) g' hg'
          go_upto_region 9 with (at_builtin; refine wpList_append_own _ rfl (.tmp 33) (.tmp 40) 26 rfl w.heap.size 3 i0 (.int .i64 0) 1 8 Tryz.underlying26 hi hz0 hz1 hz2 rfl (by decide) u5 k (flat (l.take k)) rfl ((unhide HO).alloc _) ⟨wr.heap.size, 0, none⟩ 1 1 (vcells (recI m)) rfl rfl cells_new (by intro u hu; simp [vcells, recI] at hu; first | (rcases hu with rfl | rfl <;> rfl) | (subst hu; rfl)) (by unfold maxLen; omega) (by omega) (by simp; omega) ?_; intro v' w1 hown' hgrow _; have hb1 : Below w.heap.size wr w1 := ((Below.refl _ wr).alloc hsz _).trans (below_grown_new (B := w.heap.size) hgrow (by simp; omega) (fun g' hg' => (hk5 g' hg').1)); obtain ⟨ob, hU, hM1⟩ := run_delete_i (P := Tryz.prog) (w := w1) (t := 140) (K' := 3) Tryz.underlying140 Tryz.underlying3 ((unhide HM).keep (hb1.block mb hmb)) xn; have hU2 := fun ty => hU ty w1 rfl; have hp1 := (hb1.block p hpw).trans hb; have c1' := (blk_cell hp1).trans h1; replace hown' := hide hown'; replace hM1 := hide hM1; replace hb1 := hide hb1; clear hgrow hU)
          go_wp2
          have hpm : p ≠ mb := fun e => (unhide HM).not_cells (by rw [← e]; exact hb)
          have hnm := (unhide HN).notMap (unhide HM)
          have hg := (World.ownsRow.lt (unhide HN) g rfl).2
          have hgw : g < w.heap.size := lt_of_block hh
          have hW := far_block (w := w1) mb ob
          have hN1 := (unhide HN).keep (w' := { w1 with heap := w1.heap.setIfInBounds mb ob }) (fun g' hg' => by
            cases hg'
            exact (hW.rest g (Nat.lt_of_lt_of_le hgw (Nat.le_trans hsz (unhide hb1).size)) (fun e => hnm (by rw [e]; rfl))).trans ((unhide hb1).block g hgw))
          have ho1 := ownsRow_keep2 (w' := { w1 with heap := w1.heap.setIfInBounds mb ob }) (unhide hown') (fun g' hg' => hW.rest g' (World.ownsRow.lt (unhide hown') g' hg').2 (fun e => by have := (World.ownsRow.lt (unhide hown') g' hg').1; omega))
          refine ⟨⟨k + 1, by omega, by go_num, by rw [unhide HT]; exact ho1, (hW.rest p (lt_of_block hp1) hpm).trans hp1, hN1, .inr ⟨mb, rfl, by rw [← unhide HD]; exact unhide hM1⟩,
            ((unhide HF).behind (unhide hb1)).trans hW (fun _ _ h => by rw [h]; rfl)⟩, by simp [intOf]; omega⟩
        · obtain rfl : k = ce := by omega
          have HO := hide ho
          have HN := hide N
          have HM := hide M
          have HF := hide hf
          have hll : (l.map (·.1)).length = l.length := List.length_map _
          have hgp : g ≠ p := fun e => (RowO.of_own N).ne hb (fun e => ht e.symm) (by rw [← e]; rfl)
          have c0 := (blk_cell hb).trans h0
          have hde := delete_any N 0 k (by omega) (by omega)
          rw [show ((0 : Nat) : Int) = 0 from rfl, List.take_zero, List.nil_append, ← List.map_drop] at hde
          replace hde := hide hde
          clear ho N M hf hll
          go_upto_region 12 with fail
          refine (unhide hde).mono ?_
          rintro e z ⟨nv', rfl, N', hF', hown⟩
          have hbz := hF'.blk hb (fun e => hgp (by cases e; rfl))
          have cz := (blk_cell hbz).trans h0
          have fz : z.frozen? ⟨p, o, none⟩ = false := by simp [World.frozen?, hbz]
          have hlk : (List.map (fun x => x.1) (List.drop k l)).length = l.length - k := by simp
          have hsh := (RowO.of_own N').shape
          rw [hlk] at hsh
          obtain ⟨ad', cap', rfl, _⟩ := hsh
          replace hlk := hide hlk
          replace N' := hide N'
          replace hown := hide hown
          replace hF' := hide hF'
          go_wp2
          go_ret
          have S0 := unhide SS
          have hfar : Far (fun b => b = p ∨ ShU (.slice (some ⟨g, 0, none⟩) l.length cap) mv b) w z := ((unhide HF).mono (fun _ _ h => .inr (.inr h))).trans (unhide hF') (fun _ _ h => .inr (.inl h))
          have hkeep : ∀ b, b ≠ p → (z.setCell ⟨p, o, none⟩ (.slice ad' (l.length - k) cap')).heap[b]? = z.heap[b]? := fun b hb => blk_set_ne hb
          have hmz : ∀ b, mapBlock mv = some b → b ≠ p ∧ z.heap[b]? = wr.heap[b]? := fun b hb' => by
            rcases unhide HM with ⟨h, _⟩ | ⟨b', h, hM'⟩
            · rw [h] at hb'; cases hb'
            · rw [h] at hb'; cases hb'
              exact ⟨fun e => hM'.not_cells (by rw [e]; exact hb), (unhide hF').rest b hM'.lt (fun e => (unhide HN).notMap hM' e)⟩
          refine ⟨_, rfl, ownsRow_keep2 (unhide HO) (fun g' hg' => ?_), ⟨_, ⟨blk_set hbz, by simp [h0s], by rw [Array.getElem?_setIfInBounds_ne (by omega)]; exact h1, ⟨(unhide N').keep (fun g' hg' => hkeep g' ?_), (unhide HM).keep (fun b hb' => (hkeep b (hmz b hb').1).trans (hmz b hb').2), by rw [List.map_drop]; exact S0.sorted.drop, by rw [List.length_drop]; omega⟩, ht⟩, unhide hown⟩, hfar.trans (far_set z p o _) (fun _ _ h => .inl h)⟩
          · have hg5 := World.ownsRow.lt (unhide HO) g' hg'
            have hpw := lt_of_block hbW
            have hgw := lt_of_block hh
            exact (hkeep g' (by omega)).trans ((unhide hF').rest g' hg5.2 (fun e => by have e2 : g = g' := Option.some.inj e; omega))
          · rw [unhide hown] at hg'
            cases hg'
            exact hgp

end Go.Proofs.YtamafdcnbcoegaaGreat
namespace Go.Proofs.YtamafdcnbcoegaaGreat
open Go.RowKit

/-- A record of an agent, as a thing on a shelf. -/
def recS (b : ByteArray) : Value := .agg #[.string b]
def zeroS : Value := .agg #[.string ⟨#[]⟩]
theorem zero_S (w : World) : (zeroValue 235).run Tryz.prog w = .ok zeroS w := Tryz.zeroValue235 w
def AreS (l : List (Nat × Value)) : Prop := ∀ x ∈ l, ∃ b, x.2 = recS b
theorem areS_look {l : List (Nat × Value)} (h : AreS l) (k : Int) : (∃ b, look l k = some (recS b)) ∨ look l k = none := by
  cases hv : look l k with
  | none => exact .inr rfl
  | some v =>
    obtain ⟨x, hx, _, rfl⟩ := look_mem hv
    obtain ⟨b, e⟩ := h x hx
    exact .inl ⟨b, by rw [e]⟩

set_option maxHeartbeats 400000 in
theorem hasS_any {w : World} {p o : Nat} {arr : Array Value} {t : TypeId} {nv mv : Value} {l : List (Nat × Value)} (hb : w.heap[p]? = some (.cells arr t (0, 0))) (h1 : arr[o + 1]? = some mv) (S : ShelfIs w nv mv l) (A : AreS l) (n : Int) :
    Calls Tryz.prog 165 #[.pointer (some ⟨p, o, none⟩), .int .i64 n] w fun e w' => e = .returned (.bool (look l n).isSome) ∧ Below w.heap.size w w' := by
  have c1 : w.cell? ⟨p, o + 1, none⟩ = some mv := (blk_cell hb).trans h1
  have hrun := (run_lookup_i (P := Tryz.prog) (w := w) (t := 168) Tryz.underlying168 Tryz.underlying3 (zero_S w) S.map n).1
  clear S hb h1
  rcases areS_look A n with ⟨b, h⟩ | h
  all_goals
    rw [h] at hrun ⊢
    simp only [Option.getD_some, Option.getD_none, Option.isSome_some, Option.isSome_none, recS, zeroS] at hrun ⊢
    clear h A
    go_enter Tryz.func165, Tryz.ntmps165
    go_wp2
    go_ret
    refine ⟨rfl, ?_⟩
    exact (Below.refl _ _).alloc (Nat.le_refl _) _
set_option maxRecDepth 100000 in
set_option maxHeartbeats 1000000 in
theorem putS_any {w : World} {p o : Nat} {t : TypeId} {arr : Array Value} {nv mv : Value} {l : List (Nat × Value)} (S : ShAt w p o t arr nv mv l) (hl : l.length < 1000) (n : Nat) (b : ByteArray) :
    Calls Tryz.prog 206 #[.pointer (some ⟨p, o, none⟩), .int .i64 n, recS b] w fun e w' => e = .returned (.tuple #[]) ∧ ShStep w w' p o t arr nv mv (putL l n (recS b)) := by
  obtain ⟨hbW, h0, h1, S, ht⟩ := S
  obtain ⟨mv0, hmv0⟩ : ∃ m, m = mv := ⟨_, rfl⟩
  rw [← hmv0]
  have hmv0 := hide hmv0
  have c0 : w.cell? ⟨p, o, none⟩ = some nv := (blk_cell hbW).trans h0
  have c1 : w.cell? ⟨p, o + 1, none⟩ = some mv := (blk_cell hbW).trans h1
  unfold recS
  have hp := lt_of_block hbW
  go_enter Tryz.func206, Tryz.ntmps206
  go_upto_region 1 with fail
  refine wp_world (fun x => x.heap[p]? = some (.cells arr t (0, 0)) ∧ x.heap[w.heap.size]? = some (.cells #[.string b] 235 (0, 0)) ∧ ShelfIs x nv mv l ∧ Far (fun _ => False) w x ∧ w.heap.size < x.heap.size) ?_ ?_
  · have hf : Far (fun _ => False) w (w.alloc (.cells #[.string b] 235)) := far_below ((Below.refl _ _).alloc (Nat.le_refl _) _)
    exact ⟨hf.blk hbW id, heap_alloc_new w _, S.far hf (fun _ _ h => h), hf, by simp⟩
  clear c0 c1 S
  rintro x ⟨hb, hbox, S, hf, hz⟩
  have c0 : x.cell? ⟨p, o, none⟩ = some nv := (blk_cell hb).trans h0
  have c1 : x.cell? ⟨p, o + 1, none⟩ = some mv := (blk_cell hb).trans h1
  have hfr : x.frozen? ⟨p, o + 1, none⟩ = false := by simp [World.frozen?, hb]
  have hmm := @run_makeMap Tryz.prog
  have eqN : ∀ y : World, (binOp .eql 168 (.map none) (.map none)).run Tryz.prog y = .ok (.bool true) y := fun y => by kernel_rfl
  have eqS : ∀ (y : World) (m : Nat), (binOp .eql 168 (.map (some m)) (.map none)).run Tryz.prog y = .ok (.bool false) y := fun y m => by kernel_rfl
  have pM : (x.alloc (.map #[] 0)).heap[p]? = some (.cells arr t (0, 0)) := (Below.heap_alloc x _ p (lt_of_block hb)).trans hb
  have cM : (x.alloc (.map #[] 0)).cell? ⟨p, o + 1, none⟩ = some mv := (blk_cell pM).trans h1
  have fM : (x.alloc (.map #[] 0)).frozen? ⟨p, o + 1, none⟩ = false := by simp [World.frozen?, pM]
  rcases S.map with ⟨rfl, hm⟩ | ⟨mb, rfl, hm⟩
  all_goals
    go_upto_region 3 with fail
    refine wp_world (fun y => ∃ mb, y.heap[p]? = some (.cells (arr.setIfInBounds (o + 1) (.map (some mb))) t (0, 0)) ∧ y.heap[w.heap.size]? = some (.cells #[.string b] 235 (0, 0)) ∧ NumsAt y nv (l.map (·.1)) ∧ MapAt y mb (look l) ∧
      Far (fun k => k = p) w y ∧ w.heap.size < y.heap.size ∧ (mapBlock mv0 = some mb ∨ w.heap.size ≤ mb)) ?_ ?_
  · refine ⟨x.heap.size, blk_set pM, (blk_set_ne (by omega)).trans ((Below.heap_alloc x _ _ hz).trans hbox), ?_, ?_, ?_, ?_, .inr (Nat.le_of_lt hz)⟩
    · exact S.nums.keep (fun g hg => (blk_set_ne (fun e => S.ne hb ht (.inl (by rw [← e]; exact hg)))).trans (Below.heap_alloc x _ g (World.ownsRow.lt S.nums g hg).2))
    · rw [hm]
      exact (mapAt_new x).keep (blk_set_ne (by have := lt_of_block hb; omega))
    · exact ((hf.mono (fun _ _ h => h.elim)).trans (far_below ((Below.refl _ x).alloc (Nat.le_refl _) _)) (fun _ _ h => h)).trans (far_set _ p (o + 1) _) (fun _ _ h => h)
    · simp; omega
  rotate_left
  · refine ⟨mb, by rw [set_same h1]; exact hb, hbox, S.nums, hm, hf.mono (fun _ _ h => h.elim), hz, .inl (by rw [unhide hmv0]; rfl)⟩
  all_goals
    have hs := hide S.sorted
    clear c0 c1 pM cM fM hfr hbox S hm hb hz hmm eqN eqS hf hp
    rintro y ⟨mb', hb, hbox, N, M, hfY, hz, hloc⟩
    have h0s : o < arr.size := (Array.getElem?_eq_some_iff.1 h0).1
    have h1s : o + 1 < arr.size := (Array.getElem?_eq_some_iff.1 h1).1
    have a0 : (arr.setIfInBounds (o + 1) (.map (some mb')))[o]? = some nv := by rw [Array.getElem?_setIfInBounds_ne (by omega)]; exact h0
    have a1 : (arr.setIfInBounds (o + 1) (.map (some mb')))[o + 1]? = some (.map (some mb')) := by simp [h1s]
    have c0 : y.cell? ⟨p, o, none⟩ = some nv := (blk_cell hb).trans a0
    have hk := keys_putL (v := recS b) (n := n) (unhide hs)
    have hsr := search_any N (unhide hs) (by simp; omega) n
    have hcl : (l.map (·.1)).countP (· < n) ≤ (l.map (·.1)).length := List.countP_le_length
    have hnl : (l.map (·.1)).length < 1000 := by simpa using hl
    generalize (l.map (·.1)).countP (· < n) = k at hk hsr hcl
    generalize (l.map (·.1)).contains n = c at hk hsr
    generalize l.map (·.1) = ns at hk hsr hcl N hnl
    replace hk := hide hk
    replace hsr := hide hsr
    cases c
    · go_upto_region 4 with (go_at_call 132; refine (unhide hsr).mono ?_; rintro e y1 ⟨rfl, q, rfl⟩)
      go_upto_region 6 with fail
      refine (insert_any (w := (y.drewN q).alloc (.cells #[.int .i64 n] 3)) (ns := ns) (N.keep (fun g hg => Below.heap_alloc (y.drewN q) _ g (World.ownsRow.lt N g hg).2)) (by omega) k n y.heap.size hcl (heap_alloc_new (y.drewN q) _) (fun e => by have := (World.ownsRow.lt N _ e).2; omega)).mono ?_
      rintro e z ⟨nv', rfl, hN', hF', hL'⟩
      have hbz := hF'.blk ((Below.heap_alloc (y.drewN q) _ p (lt_of_block hb)).trans hb) (fun e => (RowO.of_own N).ne hb (fun e => ht e.symm) e)
      have hxz := hF'.blk ((Below.heap_alloc (y.drewN q) _ _ hz).trans hbox) (fun e => (RowO.of_own N).ne hbox (by decide) e)
      have cz := (blk_cell hbz).trans a0
      have fz : z.frozen? ⟨p, o, none⟩ = false := by simp [World.frozen?, hbz]
      obtain ⟨ns', hns'⟩ : ∃ x, x = ns.take k ++ n :: ns.drop k := ⟨_, rfl⟩
      rw [← hns'] at hN'
      obtain ⟨g', cap', rfl⟩ := own_shape hN' (by rw [hns']; simp only [List.length_append, List.length_cons]; omega)
      replace hns' := hide hns'
      go_upto_region 6 with fail
      refine wp_world (fun z => ∃ nv', z.heap[p]? = some (.cells ((arr.setIfInBounds o nv').setIfInBounds (o + 1) (.map (some mb'))) t (0, 0)) ∧ z.heap[w.heap.size]? = some (.cells #[.string b] 235 (0, 0)) ∧ NumsAt z nv' ((putL l n (recS b)).map (·.1)) ∧ MapAt z mb' (look l) ∧
        Far (fun k => k = p ∨ nv.ownBlock = some k) w z ∧ Loc w nv nv') ?_ ?_
      · have hne : nv.ownBlock ≠ some mb' := N.notMap M
        have hpn : ∀ g, (Value.slice (some ⟨g', 0, none⟩) ns'.length cap').ownBlock = some g → g ≠ p := fun g hg e => (RowO.of_own hN').ne hbz (fun e => ht e.symm) (by rw [hg, e])
        have hk' := unhide hk
        simp only [Bool.false_eq_true, if_false] at hk'
        have hfal : Far (fun _ => False) y ((y.drewN q).alloc (.cells #[.int .i64 n] 3)) := (far_drewN (fun _ => False) y q).trans (far_below ((Below.refl _ _).alloc (Nat.le_refl _) _)) (fun _ _ h => h)
        have hfz : Far (fun b => b = p ∨ nv.ownBlock = some b) w z := (hfY.mono (fun _ _ h => .inl h)).trans ((hfal.mono (fun _ _ h => h.elim)).trans hF' (fun _ _ h => h)) (fun _ _ h => .inr h)
        refine ⟨_, ?_, (blk_set_ne (by have := lt_of_block hbW; omega)).trans hxz, ?_, ?_, hfz.trans (far_set z p o _) (fun _ _ h => .inl h), loc_less hL' (by simp; omega)⟩
        · rw [set_comm _ _ (show o ≠ o + 1 by omega)]
          exact blk_set hbz
        · rw [hk', ← unhide hns']
          exact hN'.keep (fun g hg => blk_set_ne (hpn g hg))
        · exact M.keep ((blk_set_ne (fun e => M.not_cells (by rw [e]; exact hb))).trans ((hF'.rest _ (by have := M.lt; simp; omega) hne).trans (hfal.rest _ M.lt id)))
      · skip
        rintro z ⟨nv', hb, hbox, N', M, hf, hl'⟩
        obtain ⟨ob, hU, hM⟩ := run_update_i (P := Tryz.prog) (w := z) (t := 168) Tryz.underlying168 Tryz.underlying3 M n (recS b)
        have hU' := hU z.drew rfl
        unfold recS at hU'
        have c1 : z.cell? ⟨p, o + 1, none⟩ = some (.map (some mb')) := (blk_cell hb).trans (by simp [h1s])
        have b0 := blk_cell (i := 0) hbox
        simp at b0
        go_region
        refine bodyPost_end (results_none rfl _ _ _) rfl ⟨rfl, ?_⟩
        exact put_end (v := recS b) (W := { z.drew with heap := z.drew.heap.setIfInBounds mb' ob }) h0s h1s hb ht N' M hf hl' hloc hM ((far_drewN _ z 1).trans (far_block mb' ob) (fun _ _ h => h)) (unhide hs) hl
    · go_upto_region 4 with (go_at_call 132; refine (unhide hsr).mono ?_; rintro e y1 ⟨rfl, q, rfl⟩)
      go_upto_region 6 with fail
      refine wp_world (fun z => ∃ nv', z.heap[p]? = some (.cells ((arr.setIfInBounds o nv').setIfInBounds (o + 1) (.map (some mb'))) t (0, 0)) ∧ z.heap[w.heap.size]? = some (.cells #[.string b] 235 (0, 0)) ∧ NumsAt z nv' ((putL l n (recS b)).map (·.1)) ∧ MapAt z mb' (look l) ∧
        Far (fun k => k = p ∨ nv.ownBlock = some k) w z ∧ Loc w nv nv') ?_ ?_
      · have hk' := unhide hk
        simp only [if_true] at hk'
        refine ⟨nv, ?_, hbox, by rw [hk']; exact N, M, (hfY.mono (fun _ _ h => .inl h)).trans (far_drewN _ y q) (fun _ _ h => h), .inr (.inl rfl)⟩
        rw [set_same h0]
        exact hb
      · skip
        rintro z ⟨nv', hb, hbox, N', M, hf, hl'⟩
        obtain ⟨ob, hU, hM⟩ := run_update_i (P := Tryz.prog) (w := z) (t := 168) Tryz.underlying168 Tryz.underlying3 M n (recS b)
        have hU' := hU z.drew rfl
        unfold recS at hU'
        have c1 : z.cell? ⟨p, o + 1, none⟩ = some (.map (some mb')) := (blk_cell hb).trans (by simp [h1s])
        have b0 := blk_cell (i := 0) hbox
        simp at b0
        go_region
        refine bodyPost_end (results_none rfl _ _ _) rfl ⟨rfl, ?_⟩
        exact put_end (v := recS b) (W := { z.drew with heap := z.drew.heap.setIfInBounds mb' ob }) h0s h1s hb ht N' M hf hl' hloc hM ((far_drewN _ z 1).trans (far_block mb' ob) (fun _ _ h => h)) (unhide hs) hl
end Go.Proofs.YtamafdcnbcoegaaGreat
namespace Go.Proofs.YtamafdcnbcoegaaGreat
open Go.RowKit


set_option maxRecDepth 100000 in
set_option maxHeartbeats 1000000 in
theorem clearS_any {w : World} {p o : Nat} {t : TypeId} {arr : Array Value} {nv mv : Value} {l : List (Nat × Value)} (S : ShAt w p o t arr nv mv l) :
    Calls Tryz.prog 203 #[.pointer (some ⟨p, o, none⟩)] w fun e w' => e = .returned (.tuple #[]) ∧ ShStep w w' p o t arr nv mv [] := by
  obtain ⟨hbW, h0, h1, S, ht⟩ := S
  have h0s : o < arr.size := (Array.getElem?_eq_some_iff.1 h0).1
  have h1s : o + 1 < arr.size := (Array.getElem?_eq_some_iff.1 h1).1
  obtain ⟨mv0, hmv0⟩ : ∃ m, m = mv := ⟨_, rfl⟩
  rw [← hmv0]
  replace hmv0 := hide hmv0
  have c1 : w.cell? ⟨p, o + 1, none⟩ = some mv := (blk_cell hbW).trans h1
  have e0 := S.nums.cases
  have hm : (mv = .map none ∧ ∀ ty, (Builtin.clear_ #[168] ty #[.map none]).run Tryz.prog w = .ok (.tuple #[]) w) ∨
      ∃ b o, mv = .map (some b) ∧ b ≠ p ∧ nv.ownBlock ≠ some b ∧ (∀ ty, (Builtin.clear_ #[168] ty #[.map (some b)]).run Tryz.prog w = .ok (.tuple #[]) { w with heap := w.heap.setIfInBounds b o }) ∧ MapAt { w with heap := w.heap.setIfInBounds b o } b (fun _ => none) := by
    rcases S.map with ⟨rfl, hm⟩ | ⟨mb, rfl, hm⟩
    · exact .inl ⟨rfl, fun ty => run_clear_n Tryz.underlying168⟩
    · obtain ⟨ob, hU, hM⟩ := run_clear_m (P := Tryz.prog) (w := w) (t := 168) Tryz.underlying168 hm
      exact .inr ⟨mb, ob, rfl, fun e => hm.not_cells (by rw [e]; exact hbW), S.nums.notMap hm, fun ty => hU ty w rfl, hM⟩
  rcases hm with ⟨rfl, hrun⟩ | ⟨mb, ob, rfl, hmp, hmn, hrun, hM⟩
  all_goals
    go_enter Tryz.func203, Tryz.ntmps203
    go_upto_region 1 with fail
    refine wp_world (fun x => x.heap[p]? = some (.cells arr t (0, 0)) ∧ NumsAt x nv (l.map (·.1)) ∧ MapV x mv0 (look []) ∧ Far (fun k => k = p ∨ ShU nv mv0 k) w x) ?_ ?_
  · exact ⟨hbW, S.nums, by rw [unhide hmv0]; exact .inl ⟨rfl, look_nil⟩, Far.refl _ _⟩
  rotate_left
  · have hf := far_block (w := w) mb ob
    refine ⟨hf.blk hbW (fun e => hmp e.symm), S.nums.keep (fun g hg => hf.rest g (World.ownsRow.lt S.nums g hg).2 (fun e => hmn (by rw [hg, e]))), by rw [unhide hmv0]; exact .inr ⟨mb, rfl, by rw [look_nil]; exact hM⟩, hf.mono (fun k _ e => .inr (.inr (by rw [unhide hmv0, e]; rfl)))⟩
  all_goals
    clear S
    rintro x ⟨hb, N, M, hf⟩
    have c0 : x.cell? ⟨p, o, none⟩ = some nv := (blk_cell hb).trans h0
    have f0 : x.frozen? ⟨p, o, none⟩ = false := by simp [World.frozen?, hb]
    rcases e0 with ⟨rfl, _⟩ | ⟨g, cap, cur, rfl, hh, hn, hc, hz, htk⟩
    · go_wp2
      refine bodyPost_end (results_none rfl _ _ _) rfl ⟨rfl, ?_⟩
      refine ⟨⟨_, mv0, ⟨?_, ?_, ?_, ⟨numsAt_nil _, M.keep (fun b hb' => blk_set_ne (fun e => ?_)), by simp, by simp⟩, ht⟩, .inr (.inl rfl), .inl rfl⟩, hf.trans (far_set x p o _) (fun _ _ h => .inl h)⟩
      · have := blk_set (j := o) (v := .slice none 0 0) hb
        rw [set_same (i := o + 1)]
        · exact this
        · rw [Array.getElem?_setIfInBounds_ne (by omega), h1, unhide hmv0]
      · rw [Array.getElem?_setIfInBounds_ne (by omega)]; simp [h0s]
      · simp [h1s]
      · rcases M with ⟨h, _⟩ | ⟨b', h, hM'⟩
        · rw [h] at hb'; cases hb'
        · rw [h] at hb'; cases hb'; exact hM'.not_cells (by rw [e]; exact hb)
    · go_wp2
      refine bodyPost_end (results_none rfl _ _ _) rfl ⟨rfl, ?_⟩
      rcases N.cases with ⟨h, _⟩ | ⟨g', cap', cur', h, hh', hn', hc', hz', htk'⟩
      · cases h
      · injection h with h _ h3
        injection h with h
        injection h with h
        subst h h3
        have hgp : g ≠ p := fun e => by
          subst e
          rw [hh'] at hb
          injection hb with hb
          injection hb with _ hb _
          exact ht hb.symm
        refine ⟨⟨_, mv0, ⟨?_, ?_, ?_, ⟨numsAt_mk (ns := []) ((blk_set_ne hgp).trans hh') (Nat.zero_le _) hc hz' rfl, M.keep (fun b hb' => blk_set_ne (fun e => ?_)), by simp, by simp⟩, ht⟩, .inr (.inl rfl), .inl rfl⟩, hf.trans (far_set x p o _) (fun _ _ h => .inl h)⟩
        · rw [set_same (i := o + 1)]
          · exact blk_set (j := o) hb
          · rw [Array.getElem?_setIfInBounds_ne (by omega), h1, unhide hmv0]
        · rw [Array.getElem?_setIfInBounds_ne (by omega)]; simp [h0s]
        · simp [h1s]
        · rcases M with ⟨h, _⟩ | ⟨b', h, hM'⟩
          · rw [h] at hb'; cases hb'
          · rw [h] at hb'; cases hb'; exact hM'.not_cells (by rw [e]; exact hb)



end Go.Proofs.YtamafdcnbcoegaaGreat
namespace Go.Proofs.YtamafdcnbcoegaaGreat
open Go.RowKit

/-- The first j bits of an Ack: which of the numbers from q + 2 on are on the shelf. -/
def ackTo (l : List (Nat × Value)) (q : Nat) : Nat → Nat
  | 0 => 0
  | j + 1 => ackTo l q j + if (look l ((q + 2 + j : Nat) : Int)).isSome = true then 2 ^ j else 0
theorem ackTo_lt (l : List (Nat × Value)) (q : Nat) : ∀ j, ackTo l q j < 2 ^ j
  | 0 => by simp [ackTo]
  | j + 1 => by
    have := ackTo_lt l q j
    unfold ackTo
    split
    · rw [Nat.pow_succ]; omega
    · rw [Nat.pow_succ]; omega
theorem or0 : bits BinOp.or IntKind.u8 0 1 = 1 := by decide +kernel
theorem or1 : ∀ x : Fin 2, bits BinOp.or IntKind.u8 ((x.val : Nat) : Int) 2 = ((x.val + 2 : Nat) : Int) := by decide +kernel
theorem or2 : ∀ x : Fin 4, bits BinOp.or IntKind.u8 ((x.val : Nat) : Int) 4 = ((x.val + 4 : Nat) : Int) := by decide +kernel

set_option maxRecDepth 100000 in
set_option maxHeartbeats 2000000 in
theorem ackBody_any {w : World} {p o : Nat} {t : TypeId} {arr : Array Value} {nv mv : Value} {l : List (Nat × Value)} (S : ShAt w p o t arr nv mv l) (A : AreS l) (q : Nat) (hq : q ≤ 1000000000) :
    Calls Tryz.prog 164 #[.int .i64 q, .func (.func 165) #[.pointer (some ⟨p, o, none⟩)] #[]] w fun e w' => e = .returned (.string ⟨#[UInt8.ofNat (ackTo l q 3)]⟩) ∧ Below w.heap.size w w' := by
  have HS := hide S
  have hlt := fun k (hk : ShU nv mv k) => S.sh.lt k hk
  have hp := lt_of_block S.blk
  go_enter Tryz.func164, Tryz.ntmps164
  go_wp2
  go_loopw [5, 6, 7] (fun v5 _ i wr => ∃ j : Nat, j ≤ 3 ∧ i = .int .i64 j ∧ v5 = .int .u8 (ackTo l q j : Nat) ∧ Below w.heap.size w wr) (fun _ _ i _ => 3 - (intOf i).toNat)
  case atStart => exact ⟨0, by omega, rfl, rfl, Below.refl _ _⟩
  case round =>
    obtain ⟨j, hj, rfl, rfl, hb⟩ := hrel
    have S1 : ShAt wr p o t arr nv mv l := by
      have S0 := unhide HS
      exact ⟨(hb.block p hp).trans S0.blk, S0.c0, S0.c1, S0.sh.keep (fun g hg => hb.block g (hlt g (.inl hg))) (fun g hg => hb.block g (hlt g (.inr hg))), S0.ty⟩
    have hHas := fun k : Int => hide (hasS_any S1.blk S1.c1 S1.sh A k)
    have HB := hide hb
    have hz := hb.size
    clear hb S1
    have hq2 := fun y => firstHeld_any q (by omega) y
    have hlj := ackTo_lt l q j
    rcases (show j = 0 ∨ j = 1 ∨ j = 2 ∨ j = 3 by omega) with rfl | rfl | rfl | rfl
    · have hw : IntKind.i64.wrap ((q : Int) + 2 + 0) = (q : Int) + 2 + 0 := by rw [IntKind.wrap_i64]; omega
      have hH := hHas ((q : Int) + 2)
      have HX : Hid (ackTo l q (0 + 1) = ackTo l q 0 + if (look l ((q : Int) + 2)).isSome = true then 2 ^ 0 else 0) := rfl
      generalize hx : ackTo l q 0 = x at *
      have ho := or0
      obtain rfl : x = 0 := by omega
      cases hc : (look l ((q : Int) + 2)).isSome
      · rw [hc] at hH HX
        go_upto_region 6 with (first | (go_at_call 202; refine (hq2 _).mono ?_; rintro e y ⟨rfl, rfl⟩) | (go_at_call 165; refine (unhide hH).mono ?_; rintro e z ⟨rfl, hbz⟩; have HB2 := hide ((unhide HB).trans (hbz.mono hz)); clear hbz))
        exact ⟨⟨0 + 1, by omega, by go_num, by rw [unhide HX]; simp, unhide HB2⟩, by simp [intOf]⟩
      · rw [hc] at hH HX
        go_upto_region 6 with (first | (go_at_call 202; refine (hq2 _).mono ?_; rintro e y ⟨rfl, rfl⟩) | (go_at_call 165; refine (unhide hH).mono ?_; rintro e z ⟨rfl, hbz⟩; have HB2 := hide ((unhide HB).trans (hbz.mono hz)); clear hbz))
        go_wp2
        exact ⟨⟨0 + 1, by omega, by go_num, by rw [unhide HX]; simp, unhide HB2⟩, by simp [intOf]⟩
    · have hw : IntKind.i64.wrap ((q : Int) + 2 + 1) = (q : Int) + 2 + 1 := by rw [IntKind.wrap_i64]; omega
      have hH := hHas ((q : Int) + 2 + 1)
      have HX : Hid (ackTo l q (1 + 1) = ackTo l q 1 + if (look l ((q : Int) + 2 + 1)).isSome = true then 2 ^ 1 else 0) := rfl
      generalize hx : ackTo l q 1 = x at *
      have ho := or1 ⟨x, hlj⟩
      replace hx := hide hx
      cases hc : (look l ((q : Int) + 2 + 1)).isSome
      · rw [hc] at hH HX
        go_upto_region 6 with (first | (go_at_call 202; refine (hq2 _).mono ?_; rintro e y ⟨rfl, rfl⟩) | (go_at_call 165; refine (unhide hH).mono ?_; rintro e z ⟨rfl, hbz⟩; have HB2 := hide ((unhide HB).trans (hbz.mono hz)); clear hbz))
        exact ⟨⟨1 + 1, by omega, by go_num, by rw [unhide HX]; simp, unhide HB2⟩, by simp [intOf]⟩
      · rw [hc] at hH HX
        go_upto_region 6 with (first | (go_at_call 202; refine (hq2 _).mono ?_; rintro e y ⟨rfl, rfl⟩) | (go_at_call 165; refine (unhide hH).mono ?_; rintro e z ⟨rfl, hbz⟩; have HB2 := hide ((unhide HB).trans (hbz.mono hz)); clear hbz))
        go_wp2
        exact ⟨⟨1 + 1, by omega, by go_num, by rw [unhide HX]; simp, unhide HB2⟩, by simp [intOf]⟩
    · have hw : IntKind.i64.wrap ((q : Int) + 2 + 2) = (q : Int) + 2 + 2 := by rw [IntKind.wrap_i64]; omega
      have hH := hHas ((q : Int) + 2 + 2)
      have HX : Hid (ackTo l q (2 + 1) = ackTo l q 2 + if (look l ((q : Int) + 2 + 2)).isSome = true then 2 ^ 2 else 0) := rfl
      generalize hx : ackTo l q 2 = x at *
      have ho := or2 ⟨x, hlj⟩
      replace hx := hide hx
      cases hc : (look l ((q : Int) + 2 + 2)).isSome
      · rw [hc] at hH HX
        go_upto_region 6 with (first | (go_at_call 202; refine (hq2 _).mono ?_; rintro e y ⟨rfl, rfl⟩) | (go_at_call 165; refine (unhide hH).mono ?_; rintro e z ⟨rfl, hbz⟩; have HB2 := hide ((unhide HB).trans (hbz.mono hz)); clear hbz))
        exact ⟨⟨2 + 1, by omega, by go_num, by rw [unhide HX]; simp, unhide HB2⟩, by simp [intOf]⟩
      · rw [hc] at hH HX
        go_upto_region 6 with (first | (go_at_call 202; refine (hq2 _).mono ?_; rintro e y ⟨rfl, rfl⟩) | (go_at_call 165; refine (unhide hH).mono ?_; rintro e z ⟨rfl, hbz⟩; have HB2 := hide ((unhide HB).trans (hbz.mono hz)); clear hbz))
        go_wp2
        exact ⟨⟨2 + 1, by omega, by go_num, by rw [unhide HX]; simp, unhide HB2⟩, by simp [intOf]⟩
    · have hx8 : ackTo l q 3 < 8 := hlj
      have hconv : ∀ z : World, (convert 44 9 (.slice (some ⟨z.heap.size, 0, none⟩) 1 1)).run Tryz.prog (z.alloc (.cells #[.int .u8 (ackTo l q 3 : Nat)] 5)) = .ok (.string ⟨#[UInt8.ofNat (ackTo l q 3)]⟩) (z.alloc (.cells #[.int .u8 (ackTo l q 3 : Nat)] 5)) := fun z =>
        conv_str (l := [UInt8.ofNat (ackTo l q 3)]) (b := z.heap.size) (off := 0) (n := 1) (cap := 1) rfl (fun i hi => by
          obtain rfl : i = 0 := by omega
          rw [blk_cell (heap_alloc_new z _)]
          simp
          omega)
      generalize hx3 : ackTo l q 3 = x at *
      replace hx3 := hide hx3
      go_wp2
      go_ret
      exact ⟨(congrArg (fun x => Ending.returned (Value.string ⟨#[UInt8.ofNat x]⟩)) (unhide hx3)).symm, ((unhide HB).alloc hz _)⟩
end Go.Proofs.YtamafdcnbcoegaaGreat
