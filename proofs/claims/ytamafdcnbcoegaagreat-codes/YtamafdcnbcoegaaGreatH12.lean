/-
  Walks of courierlaw's worlds: a step's keep; encoded.
-/
import Derived.Test.YtamafdcnbcoegaaGreatH11
namespace Go.Proofs.YtamafdcnbcoegaaGreat
open Go.RowKit

/-- A world that the script has made: no ends, n holds that all read as written; its own block and its holds' array lie from B on, below C. -/
def St (B C : Nat) (w : World) (wb n : Nat) : Prop :=
  ∃ hv hs, hs.length = n ∧ WorldAt (fun b _ => b < w.heap.size ∧ ¬ Us wb hv b) w wb (.slice none 0 0) (.slice none 0 0) hv hs ∧ ∀ k, Us wb hv k → B ≤ k ∧ k < C
theorem St.below {B C : Nat} {w w' : World} {wb n : Nat} (h : St B C w wb n) (hb : Below w.heap.size w w') : St B C w' wb n := by
  obtain ⟨hv, hs, hn, ⟨h1, h2, h3⟩, hB⟩ := h
  exact ⟨hv, hs, hn, ⟨(hb.block wb (lt_of_block h1)).trans h1, ownsRow_keep h2 (fun g hg => hb.block g (World.ownsRow.lt h2 g hg).2),
    fun p hp => ((h3 p hp).keep (fun b o h => World.cell?_of_block (hb.block b h.1))).mono (fun b o h => ⟨Nat.lt_of_lt_of_le h.1 hb.size, h.2⟩)⟩, hB⟩

theorem keepSt {B C : Nat} {w0 w : World} {wb n p : Nat} {bk : Value} {l : List UInt8} (S : St B C w0 wb n) (hb : Below w0.heap.size w0 w)
    (hp : w.heap[p]? = some (.cells #[.slice none 0 0, bk, .slice none 0 0, .int .i64 0, .string ⟨#[]⟩, .string ⟨#[]⟩] 110 (0, 0))) (hbk : w.ownsRow 0 5 1 bk l.length (bv l))
    (p0 : w0.heap.size ≤ p) (b0 : ∀ g, bk.ownBlock = some g → w0.heap.size ≤ g) (z1 : n ≤ 10000000000000) (z2 : l.length ≤ 140737488353990) :
    Calls Tryz.prog 76 #[ptrTo wb, ptrTo p] w fun r w' => r = .returned (.tuple #[]) ∧ St B w'.heap.size w' wb (n + 4) ∧ Far (fun k => B ≤ k ∧ k < C) w0 w' ∧ ∀ k, w0.heap.size ≤ k → k < w.heap.size → k ≠ p → bk.ownBlock ≠ some k → w'.heap[k]? = w.heap[k]? := by
  obtain ⟨hv, hs, hn, ⟨h1, h2, h3⟩, hu⟩ := S
  have hlw : wb < w0.heap.size := lt_of_block h1
  have hlv : ∀ g, hv.ownBlock = some g → g < w0.heap.size := fun g hg => (World.ownsRow.lt h2 g hg).2
  have W : WorldAt (fun b _ => b < w0.heap.size ∧ ¬ Us wb hv b) w wb (.slice none 0 0) (.slice none 0 0) hv hs :=
    ⟨(hb.block wb hlw).trans h1, ownsRow_keep h2 (fun g hg => hb.block g (hlv g hg)), fun p hp => (h3 p hp).keep (fun b o h => World.cell?_of_block (hb.block b h.1))⟩
  refine (keep_any _ w wb p _ _ hv bk hs l W hp hbk (fun b o h => ⟨Nat.lt_of_lt_of_le h.1 hb.size, fun e => h.2 (.inl e), fun e => by have := h.1; omega, fun e => h.2 (.inr e), fun e => by have := b0 b e; have := h.1; omega⟩) (by omega) z2).mono ?_
  rintro r w' ⟨rfl, hv2, hs2, hn2, W2, hF, hL⟩
  refine ⟨rfl, ⟨hv2, hs2, by omega, W2, fun k hk => ?_⟩, ?_, fun k hk0 hk hkp hkb => hF.rest k hk (fun e => e.elim hkp (fun e => e.elim hkb (fun e => by have : k < w0.heap.size := e.elim (fun e => e ▸ hlw) (hlv k); omega)))⟩
  · have hlt : k < w'.heap.size := hk.elim (fun e => e ▸ lt_of_block W2.blk) (fun e => (World.ownsRow.lt W2.row k e).2)
    refine ⟨?_, hlt⟩
    rcases hk with hk | hk
    · exact (hu k (.inl hk)).1
    · rcases hL with h | h | ⟨g, h, hg⟩
      · rw [h] at hk; cases hk
      · exact (hu k (.inr (h ▸ hk))).1
      · rw [h] at hk
        injection hk with hk
        have := hb.size
        have := (hu wb (.inl rfl)).1
        omega
  · refine (far_below (E := fun k => B ≤ k ∧ k < C) hb).trans hF (fun k hk e => ?_)
    rcases e with e | e | e
    · omega
    · have := b0 k e; omega
    · exact hu k e

/-- A step, as it lies in a cell row. -/
def opVal (kd n i : Int) (s : ByteArray) (kp k e st q : Int) (b : ByteArray) : Value := .agg #[.int .i64 kd, .int .i64 n, .int .i64 i, .string s, .int .u64 kp, .int .i64 k, .int .i64 e, .int .i64 st, .int .i64 q, .string b]

theorem below_al {B : Nat} {w w1 : World} {O : Obj} (hb : Below (w.alloc O).heap.size (w.alloc O) w1) (hB : B ≤ w.heap.size) : Below B w w1 :=
  ((Below.refl _ _).alloc hB _).trans (hb.mono (by simp; omega))
theorem boxed_cells {w w1 : World} {c : Array Value} {e : TypeId} (hb : Below (w.alloc (.cells c e)).heap.size (w.alloc (.cells c e)) w1) : ∀ i, w1.cell? ⟨w.heap.size, i, none⟩ = c[i]? :=
  fun i => (hb.cell (p := ⟨w.heap.size, i, none⟩) (by simp)).trans (blk_cell (heap_alloc_new w _))
theorem Owns.zero {B : Nat} {w : World} {v : Value} {l : List UInt8} (h : Owns B w v l) : w.ownsRow 0 5 1 v l.length (bv l) := h.mono (Nat.zero_le _)

set_option maxRecDepth 100000 in
set_option maxHeartbeats 2000000 in
theorem encoded_yes (B C : Nat) (w : World) (wb n : Nat) (kd nn i : Int) (s : ByteArray) (kp k e st q : Int) (b : ByteArray) (S : St B C w wb n) (z1 : n ≤ 10000000000000) (hp : Wire.proper k e st q b = true) :
    Calls Tryz.prog 46 #[ptrTo wb, opVal kd nn i s kp k e st q b] w fun r w' => r = .returned (.bool true) ∧ St B w'.heap.size w' wb (n + 4) ∧ Far (fun k => B ≤ k ∧ k < C) w w' := by
  have HE := fun w => hide (courier_Encode_yes k e st q b w hp)
  have HR := fun w => hide (refEncode_yes k e st q b w hp)
  have HZ : Hid ((Wire.bytes k e st q b.data.toList).length ≤ 1000) := by
    obtain ⟨_, _, _, _, h5⟩ := proper_small hp
    show _ ≤ _
    rw [Wire.length_bytes]
    simp
    omega
  have HS := hide S
  clear S hp
  generalize Wire.bytes k e st q b.data.toList = l at HE HR HZ
  unfold ptrTo opVal
  go_enter Tryz.func46, Tryz.ntmps46
  go_upto_region 2 with (go_at_call 36; refine (unhide (HE _)).mono ?_; rintro r w1 ⟨v, rfl, hown, hb1⟩; have HV := hide hown.at; have y := boxed_cells hb1; have y5 := y 5; have y6 := y 6; have y7 := y 7; have y8 := y 8; have y9 := y 9; simp at y5 y6 y7 y8 y9; have b1 := below_al hb1 (Nat.le_refl _); have HO1 := hide hown; have B1 := hide b1; clear y hb1 hown b1)
  go_upto_region 3 with (go_at_call 75; refine (unhide (HR _)).mono ?_; rintro r w2 ⟨rfl, hb2⟩; have o2 := (unhide HO1).below hb2 (fun g hg => ((unhide HO1).lt g hg).2); have b2 := (unhide B1).trans (hb2.mono (unhide B1).size); have HO2 := hide o2; have B2 := hide b2; clear hb2 o2 b2)
  have hcs := (bat_of_row (A := fun _ _ => True) (by have := (unhide HO2).zero; rw [← bv_length l] at this; exact this) (fun _ _ _ _ => trivial)).str
  go_upto_region 4 with fail
  clear y5 y6 y7 y8 y9 hcs HE HR HO1 B1
  have hl1 := unhide HZ
  obtain ⟨ad, cap, hv, _⟩ := unhide HV
  subst hv
  go_wp2_with (go_at_call 76; refine (keepSt (unhide HS) ((unhide B2).alloc (unhide B2).size _) (heap_alloc_new w2 _) ((unhide HO2).alloc _).zero (unhide B2).size (fun g hg => by have := ((unhide HO2).lt g hg).1; simp at this; omega) z1 (by omega)).mono ?_; rintro r w4 ⟨rfl, S4, B4, _⟩)
  go_ret
  exact ⟨rfl, S4, B4⟩

set_option maxRecDepth 100000 in
set_option maxHeartbeats 2000000 in
theorem encoded_no (B C : Nat) (w : World) (wb n : Nat) (kd nn i : Int) (s : ByteArray) (kp k e st q : Int) (b : ByteArray) (S : St B C w wb n) (z1 : n ≤ 10000000000000) (hb : b.size ≤ 9223372036854775807) (hp : Wire.proper k e st q b = false) :
    Calls Tryz.prog 46 #[ptrTo wb, opVal kd nn i s kp k e st q b] w fun r w' => r = .returned (.bool true) ∧ St B w'.heap.size w' wb (n + 4) ∧ Far (fun k => B ≤ k ∧ k < C) w w' := by
  have HE := fun w => hide (courier_Encode_no k e st q b w hp)
  have HR := fun w => hide (refEncode_no k e st q b w hb hp)
  have HS := hide S
  clear S hp hb
  unfold ptrTo opVal
  go_enter Tryz.func46, Tryz.ntmps46
  go_upto_region 2 with (go_at_call 36; refine (unhide (HE _)).mono ?_; rintro r w1 ⟨rfl, hb1⟩; have y := boxed_cells hb1; have y5 := y 5; have y6 := y 6; have y7 := y 7; have y8 := y 8; have y9 := y 9; simp at y5 y6 y7 y8 y9; have b1 := below_al hb1 (Nat.le_refl _); have B1 := hide b1; clear y hb1 b1)
  go_upto_region 3 with (go_at_call 75; refine (unhide (HR _)).mono ?_; rintro r w2 ⟨rfl, hb2⟩; have b2 := (unhide B1).trans (hb2.mono (unhide B1).size); have B2 := hide b2; clear hb2 b2)
  have hcs := (bat_of_row (A := fun _ _ => True) (w := w2) (v := .slice none 0 0) (l := []) (World.ownsRow_nil _ _ _ _) (fun _ _ _ _ => trivial)).str
  go_upto_region 4 with fail
  clear y5 y6 y7 y8 y9 hcs HE HR B1
  go_wp2_with (go_at_call 76; refine (keepSt (l := []) (unhide HS) ((unhide B2).alloc (unhide B2).size _) (heap_alloc_new w2 _) (World.ownsRow_nil _ _ _ _) (unhide B2).size (fun g hg => by cases hg) z1 (by simp)).mono ?_; rintro r w4 ⟨rfl, S4, B4, _⟩)
  go_ret
  exact ⟨rfl, S4, B4⟩
theorem encoded_any (B C : Nat) (w : World) (wb n : Nat) (kd nn i : Int) (s : ByteArray) (kp k e st q : Int) (b : ByteArray) (S : St B C w wb n) (z1 : n ≤ 10000000000000) (hb : b.size ≤ 9223372036854775807) :
    Calls Tryz.prog 46 #[ptrTo wb, opVal kd nn i s kp k e st q b] w fun r w' => r = .returned (.bool true) ∧ St B w'.heap.size w' wb (n + 4) ∧ Far (fun k => B ≤ k ∧ k < C) w w' := by
  cases hp : Wire.proper k e st q b
  · exact encoded_no B C w wb n kd nn i s kp k e st q b S z1 hb hp
  · exact encoded_yes B C w wb n kd nn i s kp k e st q b S z1 hp
end Go.Proofs.YtamafdcnbcoegaaGreat
