/-
  Walks of courierlaw's holds: looks.
-/
import Derived.Test.YtamafdcnbcoegaaGreatH2
namespace Go.Proofs.YtamafdcnbcoegaaGreat
open Go.RowKit

def ptrTo (p : Nat) : Value := .pointer (some ⟨p, 0, none⟩)
/-- The world's own block, its holds' array, and all holds, which lie where A lets. -/
structure WorldAt (A : Nat → Nat → Prop) (w : World) (wb : Nat) (as_ ss : Value) (hv : Value) (hs : List Nat) : Prop where
  blk : w.heap[wb]? = some (.cells #[as_, ss, hv] 83 (0, 0))
  row : w.ownsRow 0 108 1 hv hs.length (hs.map ptrTo)
  all : ∀ p ∈ hs, HoldAt A w p

set_option maxRecDepth 100000 in
set_option maxHeartbeats 2000000 in
theorem looks_any (A : Nat → Nat → Prop) (w : World) (wb : Nat) (as_ ss hv : Value) (hs : List Nat) (h : WorldAt A w wb as_ ss hv hs) :
    Calls Tryz.prog 49 #[.pointer (some ⟨wb, 0, none⟩)] w fun r w' => r = .returned (.bool true) ∧ ∃ n, w' = w.drewN n := by
  obtain ⟨hblk, hrow, hall⟩ := h
  have c2 := blk_cell (i := 2) hblk
  simp at c2
  have hrow' : Row (fun _ => True) w 108 hv (hs.map ptrTo) := ⟨by rw [List.length_map]; exact hrow, fun _ _ => trivial⟩
  obtain ⟨ha, hcap, rfl, h1, h2, h3⟩ := hrow'.shape
  rw [List.length_map] at c2 h1 h3
  have H3 := hide h3
  have HA := hide hall
  have n1 : hs.length ≤ 9223372036854775807 := by unfold maxLen at h2; omega
  clear h3 hall hrow hrow' hblk
  go_enter Tryz.func49, Tryz.ntmps49
  go_wp2
  go_loopw [3, 4] (fun i _ wr => ∃ k : Nat, k ≤ hs.length ∧ i = .int .i64 k ∧ ∃ n, wr = w.drewN n) (fun i _ _ => hs.length - (intOf i).toNat)
  case atStart => exact ⟨0, Nat.zero_le _, rfl, 0, rfl⟩
  case round =>
    obtain ⟨k, hk, rfl, n, rfl⟩ := hrel
    by_cases hlt : k < hs.length
    · obtain ⟨g, rfl, _, hc⟩ := (unhide H3) (by omega)
      have hck := hc k hlt
      rw [List.getElem?_map, List.getElem?_eq_getElem hlt] at hck
      simp only [Option.map_some, ptrTo] at hck
      have hm := fun n => hide (marked_any A hs[k] (w.drewN n) (((unhide HA) hs[k] (List.getElem_mem hlt)).keep (fun _ _ _ => rfl)))
      clear hc
      generalize hs[k] = pk at hck hm
      go_wp2_with (go_at_call 83; refine (unhide (hm _)).mono ?_; rintro r w' ⟨rfl, n', rfl⟩)
      go_roundw
      case rel => exact ⟨k + 1, by omega, by go_num, n + n', by simp⟩
      case measure => simp [intOf]; omega
    · go_wp2
      go_ret
      exact ⟨rfl, _, rfl⟩
end Go.Proofs.YtamafdcnbcoegaaGreat
