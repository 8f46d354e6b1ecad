/-
  What is asked for beyond the texts of Fu.
-/
import Derived.Below
import Derived.WalkKit
import Derived.WalkSpells
import Derived.WalkLawsBesides
import Derived.Deep.QuietTactic
import Derived.BigQuiet
import Derived.Lib.EndianBits
import Derived.Lib.AppendStr
import Derived.Deep.Cut
import Derived.Deep.CutRange
import Derived.Deep.CutBlock
import Derived.Deep.RegionHeld3
import Derived.Laws.ResultCell
import Derived.Laws.CopyOwn
import Derived.Laws.IdiomStrings
import Derived.Orders
import Derived.DeepKeys
import Derived.Laws.StructEq
import Derived.Laws.OwnMore
import Derived.Maps.OwnIn
import Derived.Shelf.Small.Wraps
import Derived.Shelf.LaysM
import Derived.Shelf.Strconv.Clone
import Derived.Shelf.Slices.Reverse
import Derived.Ground.Names2Prog
import Derived.Shelf.Slices.Clone
import Derived.Shelf.Slices.SearchI
import Derived.Shelf.Slices.Delete
import Derived.Shelf.Slices.Cells
import Derived.Shelf.Slices.Empties
import Derived.Shelf.Spec.SlicesInsertGrow
import Derived.Laws.Cover3
import Derived.Deep.RegionLaw
import Derived.RangeFuncNested
import Derived.RangeFuncBound
import Derived.RangeFuncCalls
import Derived.RangeFuncLeaves
import Derived.Shelf.Abstract
import Derived.Shelf.RegionOpen
import Derived.OwnWalkIn
import Derived.TacticsInMore
import Derived.LoopNIn
import Derived.LoopIn
import Derived.Maps.AppendAt
import Derived.OrdersIn
import Derived.Sort.CutIn
import Derived.ProofKit
import Derived.SizedLaws
import Derived.OpenShut
import Derived.ShutString
import Derived.ChangeOld
import Derived.Lib.SmallJoins
import Derived.Deep.Slices
import Derived.Test.YtamafdcnbcoegaaGreatFu14
namespace Go.Proofs.YtamafdcnbcoegaaGreat
namespace Wire

end Wire
end Go.Proofs.YtamafdcnbcoegaaGreat
namespace Go.Proofs.YtamafdcnbcoegaaGreat
namespace Wire

end Wire
end Go.Proofs.YtamafdcnbcoegaaGreat
namespace Go.Proofs.YtamafdcnbcoegaaGreat
namespace Mod

end Mod
end Go.Proofs.YtamafdcnbcoegaaGreat
namespace Go.Proofs.YtamafdcnbcoegaaGreat
open Go.RowKit

end Go.Proofs.YtamafdcnbcoegaaGreat
namespace Go.Proofs.YtamafdcnbcoegaaGreat
open Go.RowKit

end Go.Proofs.YtamafdcnbcoegaaGreat
namespace Go.Proofs.YtamafdcnbcoegaaGreat
open Go.RowKit

end Go.Proofs.YtamafdcnbcoegaaGreat
namespace Go.Proofs.YtamafdcnbcoegaaGreat
open Go.RowKit

open Wire (whole)
end Go.Proofs.YtamafdcnbcoegaaGreat
namespace Go.Proofs.YtamafdcnbcoegaaGreat
open Go.RowKit

end Go.Proofs.YtamafdcnbcoegaaGreat
namespace Go.Proofs.YtamafdcnbcoegaaGreat
open Go.RowKit
open Wire (whole)

end Go.Proofs.YtamafdcnbcoegaaGreat
namespace Go.Proofs.YtamafdcnbcoegaaGreat
open Go.RowKit
open Wire (whole)

theorem courier_Decode_gen (v : Value) (a b c d e : Int) (s : ByteArray) (w : World)
    (H : ∀ o, Hid (Calls Tryz.prog 54 #[v] (w.alloc o) fun r w' => r = .returned (.tuple #[.agg #[.int .i64 a, .int .i64 b, .int .i64 c, .int .i64 d, .string s], .int .i64 e]) ∧ Below (w.alloc o).heap.size (w.alloc o) w')) :
    Calls Tryz.prog 25 #[v] w fun r w' => r = .returned (.tuple #[.agg #[.int .i64 a, .int .i64 b, .int .i64 c, .int .i64 d, .string s], .int .i64 e]) ∧ Below w.heap.size w w' := by
  go_enter Tryz.func25, Tryz.ntmps25
  go_upto_region 1 with fail
  go_wp2_with (go_at_call 54; refine (unhide (H _)).mono ?_; rintro r w1 ⟨rfl, hb⟩; obtain ⟨z0, z1, z2, z3, z4⟩ := (frBox_new w 0 0 0 0 ⟨#[]⟩ 41).below hb (by simp); have fz : ∀ i, w1.frozen? ⟨w.heap.size, i, none⟩ = false := fun i => (hb.frozen (p := ⟨w.heap.size, i, none⟩) (by simp)).trans (by simp); have f0 := fz 0; have f1 := fz 1; have f2 := fz 2; have f3 := fz 3; have f4 := fz 4; have B1 := ((Below.refl w.heap.size w).alloc (Nat.le_refl _) (.cells #[.int .i64 0, .int .i64 0, .int .i64 0, .int .i64 0, .string ⟨#[]⟩] 41)).trans (hb.mono (by simp)); clear fz hb)
  refine bodyPost_ret (v := .tuple #[.agg #[.int .i64 a, .int .i64 b, .int .i64 c, .int .i64 d, .string s], .int .i64 e]) (by simp [results, Tryz.results25, go_sem, *]) rfl ⟨rfl, ?_⟩
  exact below_five B1 _ _ _ _ _

/-- P3: Decode, by courier's own door. -/
theorem courier_Decode_any (v : Value) (l : List UInt8) (w : World) (h : BytesAt w v l) :
    Calls Tryz.prog 25 #[v] w fun r w' => r = .returned (if Wire.reads l = true then .tuple #[frVal l, .int .i64 0] else .tuple #[zeroFr, .int .i64 1]) ∧ Below w.heap.size w w' := by
  have hA := fun o => hide (decode_any v l (w.alloc o) (h.below ((Below.refl _ _).alloc (Nat.le_refl _) _)))
  clear h
  cases hr : Wire.reads l
  all_goals
    simp only [hr, if_true, if_false, Bool.false_eq_true] at hA ⊢
    exact courier_Decode_gen v _ _ _ _ _ _ w hA
end Go.Proofs.YtamafdcnbcoegaaGreat
namespace Go.Proofs.YtamafdcnbcoegaaGreat
open Go.RowKit

/-- []byte(s). -/
theorem conv_bytes (w : World) (s : ByteArray) (hs : s.size ≤ 140737488355328) :
    ∃ v w', (convert 9 44 (.string s)).run Tryz.prog w = .ok v w' ∧ BytesAt w' v s.data.toList ∧ Below w.heap.size w w' := by
  refine ⟨_, _, run_bytes_of_string w 9 44 5 s Tryz.underlying9 Tryz.underlying44 Tryz.underlying5, ?_, ?_⟩
  · have hl : s.data.toList.length = s.size := by simp
    refine ⟨_, _, by rw [hl], by rw [hl]; exact grownCap_ge w s.size 0 5, by omega, fun _ => ⟨w.heap.size, 0, rfl, fun i hi => ?_⟩⟩
    rw [hl] at hi
    generalize hC : bytesRow s (grownCap w s.size 0 5) = C
    have hcell : (w.drew.alloc (.cells C 5 (C.size, C.size + 1))).cell? ⟨w.heap.size, 0 + i, none⟩ = C[0 + i]? := by
      unfold World.cell?
      have : (w.drew.alloc (.cells C 5 (C.size, C.size + 1))).heap[w.heap.size]? = some (.cells C 5 (C.size, C.size + 1)) := by
        show (w.heap.push _)[w.heap.size]? = _
        simp
      rw [this]; rfl
    rw [hcell, ← hC, Nat.zero_add]
    have hi2 : i < s.data.size := hi
    unfold bytesRow
    rw [Array.getElem?_append_left (by simpa using hi2)]
    have he : s.data[i]? = some s.data[i] := Array.getElem?_eq_getElem hi2
    simp [he]
  · exact ((Below.refl _ _).drew).alloc (Nat.le_refl _) _

end Go.Proofs.YtamafdcnbcoegaaGreat

namespace Go.Proofs.YtamafdcnbcoegaaGreat
open Go.RowKit

section
variable {P : Program} {ops : Array Oper} {Q : Exit → Act → World → Prop}

end
end Go.Proofs.YtamafdcnbcoegaaGreat
namespace Go.Proofs.YtamafdcnbcoegaaGreat
open Go.RowKit

end Go.Proofs.YtamafdcnbcoegaaGreat
namespace Go.Proofs.YtamafdcnbcoegaaGreat
open Go.RowKit

end Go.Proofs.YtamafdcnbcoegaaGreat
namespace Go.Proofs.YtamafdcnbcoegaaGreat
open Go.RowKit

end Go.Proofs.YtamafdcnbcoegaaGreat
namespace Go.Proofs.YtamafdcnbcoegaaGreat
open Go.RowKit

end Go.Proofs.YtamafdcnbcoegaaGreat
namespace Go.Proofs.YtamafdcnbcoegaaGreat
open Go.RowKit

end Go.Proofs.YtamafdcnbcoegaaGreat
namespace Go.Proofs.YtamafdcnbcoegaaGreat
open Go.RowKit

end Go.Proofs.YtamafdcnbcoegaaGreat
namespace Go.Proofs.YtamafdcnbcoegaaGreat
open Go.RowKit

section
variable {w X : World} {p q : Nat} {cp cq : Array Value} {tv bv' fv tv2 bv2 fv2 : Value} {ts fs ts2 fs2 : List Value} {l l2 : List UInt8}

end
end Go.Proofs.YtamafdcnbcoegaaGreat
namespace Go.Proofs.YtamafdcnbcoegaaGreat
open Go.RowKit

end Go.Proofs.YtamafdcnbcoegaaGreat
namespace Go.Proofs.YtamafdcnbcoegaaGreat
open Go.RowKit

end Go.Proofs.YtamafdcnbcoegaaGreat
namespace Go.Proofs.YtamafdcnbcoegaaGreat
open Go.RowKit

end Go.Proofs.YtamafdcnbcoegaaGreat
namespace Go.Proofs.YtamafdcnbcoegaaGreat
open Go.RowKit

end Go.Proofs.YtamafdcnbcoegaaGreat
namespace Go.Proofs.YtamafdcnbcoegaaGreat
open Go.RowKit

end Go.Proofs.YtamafdcnbcoegaaGreat
namespace Go.Proofs.YtamafdcnbcoegaaGreat
open Go.RowKit

end Go.Proofs.YtamafdcnbcoegaaGreat

namespace Go.Proofs.YtamafdcnbcoegaaGreat
open Go.RowKit

section
variable {P : Program} {ops : Array Oper} {Q : Exit → Act → World → Prop}

end
end Go.Proofs.YtamafdcnbcoegaaGreat
namespace Go.Proofs.YtamafdcnbcoegaaGreat
open Go.RowKit

end Go.Proofs.YtamafdcnbcoegaaGreat
namespace Go.Proofs.YtamafdcnbcoegaaGreat
open Go.RowKit

end Go.Proofs.YtamafdcnbcoegaaGreat
namespace Go.Proofs.YtamafdcnbcoegaaGreat
namespace Mod

end Mod
end Go.Proofs.YtamafdcnbcoegaaGreat
namespace Go.Proofs.YtamafdcnbcoegaaGreat
open Go.RowKit

end Go.Proofs.YtamafdcnbcoegaaGreat
namespace Go.Proofs.YtamafdcnbcoegaaGreat
open Go.RowKit

end Go.Proofs.YtamafdcnbcoegaaGreat
namespace Go.Proofs.YtamafdcnbcoegaaGreat
open Go.RowKit

end Go.Proofs.YtamafdcnbcoegaaGreat
namespace Go.Proofs.YtamafdcnbcoegaaGreat
namespace Mod

end Mod
end Go.Proofs.YtamafdcnbcoegaaGreat
namespace Go.Proofs.YtamafdcnbcoegaaGreat
open Go.RowKit

end Go.Proofs.YtamafdcnbcoegaaGreat
namespace Go.Proofs.YtamafdcnbcoegaaGreat
open Go.RowKit

end Go.Proofs.YtamafdcnbcoegaaGreat
namespace Go.Proofs.YtamafdcnbcoegaaGreat
open Go.RowKit

end Go.Proofs.YtamafdcnbcoegaaGreat
namespace Go.Proofs.YtamafdcnbcoegaaGreat
open Go.RowKit

end Go.Proofs.YtamafdcnbcoegaaGreat
namespace Go.Proofs.YtamafdcnbcoegaaGreat
open Go.RowKit
open Go.MapKept

end Go.Proofs.YtamafdcnbcoegaaGreat
namespace Go.Proofs
open Go.Shelf
end Go.Proofs

namespace Go.Proofs.YtamafdcnbcoegaaGreat
open Go.RowKit

end Go.Proofs.YtamafdcnbcoegaaGreat
namespace Go.Proofs.YtamafdcnbcoegaaGreat
open Go.RowKit

end Go.Proofs.YtamafdcnbcoegaaGreat
namespace Go.Proofs.YtamafdcnbcoegaaGreat
open Go.RowKit

end Go.Proofs.YtamafdcnbcoegaaGreat
namespace Go.Proofs.YtamafdcnbcoegaaGreat
open Go.RowKit

end Go.Proofs.YtamafdcnbcoegaaGreat
namespace Go.Proofs.YtamafdcnbcoegaaGreat
open Go.RowKit

end Go.Proofs.YtamafdcnbcoegaaGreat
namespace Go.Proofs.YtamafdcnbcoegaaGreat
open Go.RowKit

end Go.Proofs.YtamafdcnbcoegaaGreat
namespace Go.Proofs.YtamafdcnbcoegaaGreat
open Go.RowKit




end Go.Proofs.YtamafdcnbcoegaaGreat
namespace Go.Proofs.YtamafdcnbcoegaaGreat
open Go.RowKit


end Go.Proofs.YtamafdcnbcoegaaGreat
namespace Go.Proofs.YtamafdcnbcoegaaGreat
open Go.RowKit

end Go.Proofs.YtamafdcnbcoegaaGreat

namespace Go.Proofs.YtamafdcnbcoegaaGreat
open Go.RowKit

end Go.Proofs.YtamafdcnbcoegaaGreat
namespace Go.Proofs.YtamafdcnbcoegaaGreat
open Go.RowKit

end Go.Proofs.YtamafdcnbcoegaaGreat
namespace Go.Proofs.YtamafdcnbcoegaaGreat
open Go.RowKit

end Go.Proofs.YtamafdcnbcoegaaGreat
namespace Go.Proofs.YtamafdcnbcoegaaGreat
open Go.RowKit

end Go.Proofs.YtamafdcnbcoegaaGreat
namespace Go.Proofs.YtamafdcnbcoegaaGreat
open Go.RowKit

namespace Mod
end Mod
end Go.Proofs.YtamafdcnbcoegaaGreat
namespace Go.Proofs.YtamafdcnbcoegaaGreat
open Go.RowKit

end Go.Proofs.YtamafdcnbcoegaaGreat
namespace Go.Proofs.YtamafdcnbcoegaaGreat
open Go.RowKit

end Go.Proofs.YtamafdcnbcoegaaGreat
namespace Go.Proofs.YtamafdcnbcoegaaGreat
open Go.RowKit

end Go.Proofs.YtamafdcnbcoegaaGreat
namespace Go.Proofs.YtamafdcnbcoegaaGreat
open Go.RowKit

end Go.Proofs.YtamafdcnbcoegaaGreat
namespace Go.Proofs.YtamafdcnbcoegaaGreat
open Go.RowKit

end Go.Proofs.YtamafdcnbcoegaaGreat
namespace Go.Proofs.YtamafdcnbcoegaaGreat
open Go.RowKit

end Go.Proofs.YtamafdcnbcoegaaGreat
namespace Go.Proofs.YtamafdcnbcoegaaGreat
open Go.RowKit

end Go.Proofs.YtamafdcnbcoegaaGreat
namespace Go.Proofs.YtamafdcnbcoegaaGreat
open Go.RowKit

end Go.Proofs.YtamafdcnbcoegaaGreat
namespace Go.Proofs.YtamafdcnbcoegaaGreat
open Go.RowKit

end Go.Proofs.YtamafdcnbcoegaaGreat
namespace Go.Proofs.YtamafdcnbcoegaaGreat
open Go.RowKit

end Go.Proofs.YtamafdcnbcoegaaGreat
namespace Go.Proofs.YtamafdcnbcoegaaGreat
open Go.RowKit

end Go.Proofs.YtamafdcnbcoegaaGreat
namespace Go.Proofs.YtamafdcnbcoegaaGreat
open Go.RowKit

end Go.Proofs.YtamafdcnbcoegaaGreat
namespace Go.Proofs.YtamafdcnbcoegaaGreat
open Go.RowKit

end Go.Proofs.YtamafdcnbcoegaaGreat
namespace Go.Proofs.YtamafdcnbcoegaaGreat
open Go.RowKit

end Go.Proofs.YtamafdcnbcoegaaGreat
namespace Go.Proofs.YtamafdcnbcoegaaGreat
open Go.RowKit

end Go.Proofs.YtamafdcnbcoegaaGreat
namespace Go.Proofs.YtamafdcnbcoegaaGreat
open Go.RowKit

end Go.Proofs.YtamafdcnbcoegaaGreat

namespace Go.Proofs.YtamafdcnbcoegaaGreat
open Go.RowKit

end Go.Proofs.YtamafdcnbcoegaaGreat
namespace Go.Proofs.YtamafdcnbcoegaaGreat
open Go.RowKit

section
variable {top N : Nat} {C : AgentC top} {w x : World} {q sv rp : Nat} {a : Mod.Ag} {r : RRest} {kv hk : Nat → Value} {U : Nat → Prop} {left : Int} {E : Nat → Prop}
end
end Go.Proofs.YtamafdcnbcoegaaGreat
namespace Go.Proofs.YtamafdcnbcoegaaGreat
open Go.RowKit

end Go.Proofs.YtamafdcnbcoegaaGreat
namespace Go.Proofs.YtamafdcnbcoegaaGreat
open Go.RowKit

end Go.Proofs.YtamafdcnbcoegaaGreat
namespace Go.Proofs.YtamafdcnbcoegaaGreat
open Go.RowKit
attribute [local go_sem] Oper.semAt_some

end Go.Proofs.YtamafdcnbcoegaaGreat
namespace Go.Proofs.YtamafdcnbcoegaaGreat
open Go.RowKit

end Go.Proofs.YtamafdcnbcoegaaGreat
namespace Go.Proofs.YtamafdcnbcoegaaGreat
open Go.RowKit

end Go.Proofs.YtamafdcnbcoegaaGreat
namespace Go.Proofs.YtamafdcnbcoegaaGreat
open Go.RowKit


end Go.Proofs.YtamafdcnbcoegaaGreat
namespace Go.Proofs.YtamafdcnbcoegaaGreat
open Go.RowKit

end Go.Proofs.YtamafdcnbcoegaaGreat
namespace Go.Proofs.YtamafdcnbcoegaaGreat
open Go.RowKit


end Go.Proofs.YtamafdcnbcoegaaGreat
namespace Go.Proofs.YtamafdcnbcoegaaGreat
open Go.RowKit



end Go.Proofs.YtamafdcnbcoegaaGreat
namespace Go.Proofs.YtamafdcnbcoegaaGreat
open Go.RowKit

end Go.Proofs.YtamafdcnbcoegaaGreat
namespace Go.Proofs.YtamafdcnbcoegaaGreat
open Go.RowKit


end Go.Proofs.YtamafdcnbcoegaaGreat
namespace Go.Proofs.YtamafdcnbcoegaaGreat
open Go.RowKit

end Go.Proofs.YtamafdcnbcoegaaGreat

namespace Go.Proofs.YtamafdcnbcoegaaGreat
open Go.RowKit

end Go.Proofs.YtamafdcnbcoegaaGreat
namespace Go.Proofs.YtamafdcnbcoegaaGreat
open Go.RowKit

section
variable {w x : World} {p e s : Nat} {logs : Nat → List ByteArray} {sh : Nat → List (Nat × Value)} {arr : Array Value} {lv nv mv : Nat → Value} {rv : Value}
end

end Go.Proofs.YtamafdcnbcoegaaGreat
namespace Go.Proofs.YtamafdcnbcoegaaGreat
open Go.RowKit

section
variable {w x y : World} {p e : Nat} {logs : Nat → List ByteArray} {sh : Nat → List (Nat × Value)} {st : Mod.Stv} {c : Sv}
end
end Go.Proofs.YtamafdcnbcoegaaGreat
namespace Go.Proofs.YtamafdcnbcoegaaGreat
open Go.RowKit

end Go.Proofs.YtamafdcnbcoegaaGreat
namespace Go.Proofs.YtamafdcnbcoegaaGreat
open Go.RowKit

end Go.Proofs.YtamafdcnbcoegaaGreat
namespace Go.Proofs.YtamafdcnbcoegaaGreat

end Go.Proofs.YtamafdcnbcoegaaGreat
namespace Go.Proofs.YtamafdcnbcoegaaGreat
open Go.RowKit
section
variable {w x y : World} {p e e2 : Nat} {logs logs2 : Nat → List ByteArray} {sh sh2 : Nat → List (Nat × Value)} {st st2 : Mod.Stv} {c : Sv}
end
end Go.Proofs.YtamafdcnbcoegaaGreat
namespace Go.Proofs.YtamafdcnbcoegaaGreat
open Go.RowKit

section
variable {w x y : World} {p : Nat} {g g2 : Nat → Nat} {tk tk2 : Nat} {wel wel2 fen fen2 : Bool} {free free2 : List Nat} {sh sh2 : Nat → List (Nat × Value)} {arr : Array Value} {s : Nat} {nv mv : Nat → Value} {fv rv : Value} {st st2 : Mod.Stv} {c : Av}
end
end Go.Proofs.YtamafdcnbcoegaaGreat
namespace Go.Proofs.YtamafdcnbcoegaaGreat
open Go.RowKit

end Go.Proofs.YtamafdcnbcoegaaGreat

namespace Go.Proofs.YtamafdcnbcoegaaGreat
open Go.RowKit
section
variable {a : Mod.Ag} {op : Nat} {g : Nat → Nat} {free : List Nat} {sh : Nat → List (Nat × Value)} {pl : Nat → List Nat}

end
end Go.Proofs.YtamafdcnbcoegaaGreat
namespace Go.Proofs.YtamafdcnbcoegaaGreat
open Go.RowKit

section
variable {w : World} {p : Nat} {g : Nat → Nat} {tk : Nat} {wel fen : Bool} {free : List Nat} {sh : Nat → List (Nat × Value)} {st : Mod.Stv} {c : Av} {a : Mod.Ag} {op : Nat} {go : Nat → Nat} {pl : Nat → List Nat}
end
end Go.Proofs.YtamafdcnbcoegaaGreat
namespace Go.Proofs.YtamafdcnbcoegaaGreat
open Go.RowKit

section
variable {w x y : World} {p : Nat} {g : Nat → Nat} {tk : Nat} {wel fen : Bool} {free : List Nat} {sh : Nat → List (Nat × Value)} {st st2 : Mod.Stv} {c : Av} {a : Mod.Ag} {op : Nat} {pl : Nat → List Nat}
end
end Go.Proofs.YtamafdcnbcoegaaGreat
namespace Go.Proofs.YtamafdcnbcoegaaGreat
open Go.RowKit

end Go.Proofs.YtamafdcnbcoegaaGreat
namespace Go.Proofs.YtamafdcnbcoegaaGreat
open Go.RowKit
section
variable {w : World} {p : Nat} {g : Nat → Nat} {free : List Nat} {sh : Nat → List (Nat × Value)} {st : Mod.Stv} {c : Av} {a : Mod.Ag} {pl : Nat → List Nat}

end
end Go.Proofs.YtamafdcnbcoegaaGreat
namespace Go.Proofs.YtamafdcnbcoegaaGreat
open Go.RowKit

end Go.Proofs.YtamafdcnbcoegaaGreat

namespace Go.Proofs.YtamafdcnbcoegaaGreat
open Go.RowKit
section
variable {w x : World} {p : Nat} {g : Nat → Nat} {tk : Nat} {wel fen : Bool} {free : List Nat} {sh : Nat → List (Nat × Value)} {st : Mod.Stv} {c : Av} {a : Mod.Ag} {pl : Nat → List Nat}
end
end Go.Proofs.YtamafdcnbcoegaaGreat
namespace Go.Proofs.YtamafdcnbcoegaaGreat
open Go.RowKit
section
variable {w : World} {p : Nat} {g : Nat → Nat} {free : List Nat} {sh : Nat → List (Nat × Value)} {st : Mod.Stv} {c : Av} {a : Mod.Ag} {op : Nat} {pl : Nat → List Nat}
end
end Go.Proofs.YtamafdcnbcoegaaGreat
namespace Go.Proofs.YtamafdcnbcoegaaGreat
open Go.RowKit

section
variable {g : Nat → Nat} {free : List Nat} {sh : Nat → List (Nat × Value)} {a : Mod.Ag} {op : Nat} {pl : Nat → List Nat}
end
end Go.Proofs.YtamafdcnbcoegaaGreat
namespace Go.Proofs.YtamafdcnbcoegaaGreat
open Go.RowKit
section
variable {w : World} {p : Nat} {g : Nat → Nat} {free : List Nat} {sh : Nat → List (Nat × Value)} {st : Mod.Stv} {c : Av} {a : Mod.Ag} {pl : Nat → List Nat}
end
end Go.Proofs.YtamafdcnbcoegaaGreat
namespace Go.Proofs.YtamafdcnbcoegaaGreat
open Go.RowKit

section
variable {P : Program} {ops : Array Oper} {Q : Exit → Act → World → Prop}

end
end Go.Proofs.YtamafdcnbcoegaaGreat
namespace Go.Proofs.YtamafdcnbcoegaaGreat
open Go.RowKit

end Go.Proofs.YtamafdcnbcoegaaGreat

namespace Go.Proofs.YtamafdcnbcoegaaGreat
open Go.RowKit

end Go.Proofs.YtamafdcnbcoegaaGreat
namespace Go.Proofs.YtamafdcnbcoegaaGreat
open Go.RowKit

end Go.Proofs.YtamafdcnbcoegaaGreat
namespace Go.Proofs.YtamafdcnbcoegaaGreat
open Go.RowKit

end Go.Proofs.YtamafdcnbcoegaaGreat
namespace Go.Proofs.YtamafdcnbcoegaaGreat
open Go.RowKit

end Go.Proofs.YtamafdcnbcoegaaGreat
namespace Go.Proofs.YtamafdcnbcoegaaGreat
open Go.RowKit

end Go.Proofs.YtamafdcnbcoegaaGreat
namespace Go.Proofs.YtamafdcnbcoegaaGreat
open Go.RowKit

end Go.Proofs.YtamafdcnbcoegaaGreat
namespace Go.Proofs.YtamafdcnbcoegaaGreat
open Go.RowKit

end Go.Proofs.YtamafdcnbcoegaaGreat
namespace Go.Proofs.YtamafdcnbcoegaaGreat
open Go.RowKit

end Go.Proofs.YtamafdcnbcoegaaGreat

namespace Go.Proofs.YtamafdcnbcoegaaGreat
open Go.RowKit
section
variable {w : World} {p : Nat} {g0 : Nat → Nat} {free : List Nat} {sh : Nat → List (Nat × Value)} {st : Mod.Stv} {c : Av} {a a2 : Mod.Ag} {pl : Nat → List Nat}
end
section
variable {w : World} {p : Nat} {g0 : Nat → Nat} {free : List Nat} {sh : Nat → List (Nat × Value)} {st : Mod.Stv} {c : Av} {a : Mod.Ag} {pl : Nat → List Nat}
end
end Go.Proofs.YtamafdcnbcoegaaGreat
namespace Go.Proofs.YtamafdcnbcoegaaGreat
open Go.RowKit
attribute [local go_sem] Oper.semAt_some
section
variable {w : World} {p : Nat} {g : Nat → Nat} {free : List Nat} {sh : Nat → List (Nat × Value)} {st : Mod.Stv} {c : Av} {a : Mod.Ag} {pl : Nat → List Nat}
end
end Go.Proofs.YtamafdcnbcoegaaGreat
namespace Go.Proofs.YtamafdcnbcoegaaGreat
open Go.RowKit

end Go.Proofs.YtamafdcnbcoegaaGreat
namespace Go.Proofs.YtamafdcnbcoegaaGreat
open Go.RowKit

end Go.Proofs.YtamafdcnbcoegaaGreat
namespace Go.Proofs.YtamafdcnbcoegaaGreat
open Go.RowKit

end Go.Proofs.YtamafdcnbcoegaaGreat
namespace Go.Proofs.YtamafdcnbcoegaaGreat
open Go.RowKit

end Go.Proofs.YtamafdcnbcoegaaGreat
namespace Go.Proofs.YtamafdcnbcoegaaGreat
open Go.RowKit

section
variable {w x : World} {p : Nat} {g : Nat → Nat} {tk : Nat} {wel fen : Bool} {free : List Nat} {sh sh2 : Nat → List (Nat × Value)} {st : Mod.Stv} {c c2 : Av}
end
end Go.Proofs.YtamafdcnbcoegaaGreat
namespace Go.Proofs.YtamafdcnbcoegaaGreat
open Go.RowKit
section
variable {w : World} {p : Nat} {g : Nat → Nat} {free : List Nat} {sh : Nat → List (Nat × Value)} {st : Mod.Stv} {c : Av} {a : Mod.Ag} {pl : Nat → List Nat}
end
end Go.Proofs.YtamafdcnbcoegaaGreat
namespace Go.Proofs.YtamafdcnbcoegaaGreat
open Go.RowKit

end Go.Proofs.YtamafdcnbcoegaaGreat
namespace Go.Proofs.YtamafdcnbcoegaaGreat
open Go.RowKit

end Go.Proofs.YtamafdcnbcoegaaGreat

namespace Go.Proofs.YtamafdcnbcoegaaGreat
open Go.RowKit

section
variable {w W W' : World} {g0 p i : Nat} {c : Av} {st : Mod.Stv} {g : Nat → Nat} {free : List Nat} {pl : Nat → List Nat} {F : List ByteArray} {A : Mod.Ag}
end
end Go.Proofs.YtamafdcnbcoegaaGreat
namespace Go.Proofs.YtamafdcnbcoegaaGreat
open Go.RowKit
section
variable {w W : World} {g0 p i : Nat} {c : Av} {st : Mod.Stv} {g : Nat → Nat} {free : List Nat} {pl : Nat → List Nat} {F : List ByteArray} {a : Mod.Ag} {tk k : Nat}
end
end Go.Proofs.YtamafdcnbcoegaaGreat
namespace Go.Proofs.YtamafdcnbcoegaaGreat
open Go.RowKit

section
variable {P : Program} {ops : Array Oper} {Q : Exit → Act → World → Prop} {lr n : Nat}

end
end Go.Proofs.YtamafdcnbcoegaaGreat
namespace Go.Proofs.YtamafdcnbcoegaaGreat
open Go.RowKit
section
variable {w W : World} {g0 p i : Nat} {c : Av} {st : Mod.Stv} {g : Nat → Nat} {free : List Nat} {sh : Nat → List (Nat × Value)} {pl : Nat → List Nat} {F : List ByteArray} {a : Mod.Ag} {tk k : Nat}
end
end Go.Proofs.YtamafdcnbcoegaaGreat
namespace Go.Proofs.YtamafdcnbcoegaaGreat
open Go.RowKit
section
variable {w W z : World} {g0 p i : Nat} {c c' : Av} {st : Mod.Stv} {g : Nat → Nat} {free : List Nat} {sh : Nat → List (Nat × Value)} {pl : Nat → List Nat} {F : List ByteArray} {A : Mod.Ag} {lv lv' v : Value} {fs : List Value} {b : ByteArray}
end
end Go.Proofs.YtamafdcnbcoegaaGreat
namespace Go.Proofs.YtamafdcnbcoegaaGreat
open Go.RowKit

section
variable {P : Program} {ops : Array Oper} {Q : Exit → Act → World → Prop} {lr n : Nat}

end
end Go.Proofs.YtamafdcnbcoegaaGreat
namespace Go.Proofs.YtamafdcnbcoegaaGreat
open Go.RowKit
attribute [local go_sem] Oper.semAt_some
section
variable {w W : World} {g0 p i : Nat} {c : Av} {st : Mod.Stv} {g : Nat → Nat} {free : List Nat} {sh : Nat → List (Nat × Value)} {pl : Nat → List Nat} {F : List ByteArray} {a : Mod.Ag} {tk k : Nat}
end
section
variable {w : World} {p : Nat} {g : Nat → Nat} {free : List Nat} {sh : Nat → List (Nat × Value)} {st : Mod.Stv} {c : Av} {a : Mod.Ag} {pl : Nat → List Nat}
end
end Go.Proofs.YtamafdcnbcoegaaGreat

namespace Go.Proofs.YtamafdcnbcoegaaGreat
open Go.RowKit

end Go.Proofs.YtamafdcnbcoegaaGreat
namespace Go.Proofs.YtamafdcnbcoegaaGreat
open Go.RowKit
end Go.Proofs.YtamafdcnbcoegaaGreat
namespace Go.Proofs.YtamafdcnbcoegaaGreat
open Go.RowKit
section
variable {w : World} {p : Nat} {g : Nat → Nat} {free : List Nat} {sh : Nat → List (Nat × Value)} {st : Mod.Stv} {c : Av} {a : Mod.Ag} {pl : Nat → List Nat}
end
end Go.Proofs.YtamafdcnbcoegaaGreat
namespace Go.Proofs.YtamafdcnbcoegaaGreat
open Go.RowKit

section
variable {top N : Nat} {C : AgentC top} {w x y : World} {q sv rp f : Nat} {a ar ap : Mod.Ag} {r : RRest} {kv kvc hk hkc : Nat → Value} {U U' : Nat → Prop} {left : Int} {i : Int} {s : ByteArray}
end
end Go.Proofs.YtamafdcnbcoegaaGreat
namespace Go.Proofs.YtamafdcnbcoegaaGreat
open Go.RowKit

section
variable {w : World} {p : Nat} {g : Nat → Nat} {free : List Nat} {sh : Nat → List (Nat × Value)} {st : Mod.Stv} {c : Av} {a : Mod.Ag} {pl : Nat → List Nat}
end
section
variable {w z : World} {p v : Nat} {g : Nat → Nat} {tk : Nat} {wel fen : Bool} {free : List Nat} {sh : Nat → List (Nat × Value)} {st : Mod.Stv} {c : Av} {a a' : Mod.Ag} {U : Nat → Prop} {N : Nat}
end
end Go.Proofs.YtamafdcnbcoegaaGreat
namespace Go.Proofs.YtamafdcnbcoegaaGreat
open Go.RowKit

def skLogs (a : Mod.Sk) (i : Int) : List ByteArray := if 0 ≤ i ∧ i < 3 then a.logs i.toNat else []
end Go.Proofs.YtamafdcnbcoegaaGreat
namespace Go.Proofs.YtamafdcnbcoegaaGreat
open Go.RowKit

end Go.Proofs.YtamafdcnbcoegaaGreat
namespace Go.Proofs.YtamafdcnbcoegaaGreat
open Go.RowKit

section
variable {top : Nat} {C : AgentC top} {D : SinkC} {B N : Nat} {x y : World} {va vs : Nat} {a : Mod.Ag} {k : Mod.Sk} {G : Nat → Prop}
theorem Ends.log (h : Ends C D B N x va vs a k G) (i : Int) :
    Calls Tryz.prog 32 #[ptrTo vs, .int .i64 i] x fun r y => ∃ lv, r = .returned lv ∧ y.ownsRow x.heap.size 9 1 lv (skLogs k i).length (strs (skLogs k i)) ∧ Ends C D B N y va vs a k (fun j => G j ∨ (x.heap.size ≤ j ∧ j < y.heap.size)) ∧ Below x.heap.size x y := by
  obtain ⟨U, V, _, h2, _⟩ := h.all
  refine (D.log i h2 h.gk).mono ?_
  rintro r y ⟨lv, rfl, k1, k2⟩
  exact ⟨lv, rfl, k1, h.more k2, k2⟩
end
end Go.Proofs.YtamafdcnbcoegaaGreat
namespace Go.Proofs.YtamafdcnbcoegaaGreat
open Go.RowKit

end Go.Proofs.YtamafdcnbcoegaaGreat
namespace Go.Proofs.YtamafdcnbcoegaaGreat
open Go.RowKit

end Go.Proofs.YtamafdcnbcoegaaGreat
namespace Go.Proofs.YtamafdcnbcoegaaGreat
open Go.RowKit

end Go.Proofs.YtamafdcnbcoegaaGreat
namespace Go.Proofs.YtamafdcnbcoegaaGreat

end Go.Proofs.YtamafdcnbcoegaaGreat
namespace Go.Proofs.YtamafdcnbcoegaaGreat
open Go.RowKit
end Go.Proofs.YtamafdcnbcoegaaGreat
namespace Go.Proofs.YtamafdcnbcoegaaGreat
open Go.RowKit

end Go.Proofs.YtamafdcnbcoegaaGreat
namespace Go.Proofs.YtamafdcnbcoegaaGreat
open Go.RowKit
section
variable {top : Nat} {C : AgentC top} {D : SinkC} {B i : Nat} {x y : World} {va vs g : Nat} {xs : Nat → Nat} {wv : Nat → Value}
end
end Go.Proofs.YtamafdcnbcoegaaGreat
namespace Go.Proofs.YtamafdcnbcoegaaGreat
def kn0 : Mod.Ag := agSubmits (agSubmits { epoch := 1, ticks := 0, welcome := false, fenced := false, fl := fun _ => { base := 0, kept := [], held := [] } } 1 ⟨#[120]⟩) 1 ⟨#[121]⟩
theorem kn_ok : ∀ j, j < 3 → (exchM (exN kn0 sk00 j).1 (exN kn0 sk00 j).2).2.2 = true := by decide +kernel
theorem kn_spool : agSpools (exN kn0 sk00 3).1 1 = [] := by decide +kernel
theorem kn_ref : (exN kn0 sk00 3).1.refuses 1 1 = 0 := by decide +kernel
theorem kn_more : agSpools (agSubmits (exN kn0 sk00 3).1 1 ⟨#[122]⟩) 1 = [⟨#[122]⟩] := by decide +kernel
end Go.Proofs.YtamafdcnbcoegaaGreat
namespace Go.Proofs.YtamafdcnbcoegaaGreat
open Go.RowKit
def ag00 : Mod.Ag := { epoch := 1, ticks := 0, welcome := false, fenced := false, fl := fun _ => { base := 0, kept := [], held := [] } }
theorem kn_is : kn0 = agSubmits (agSubmits ag00 1 ⟨#[120]⟩) 1 ⟨#[121]⟩ := rfl
theorem kn_x : ag00.refuses 1 (⟨#[120]⟩ : ByteArray).size = 0 := by decide +kernel
theorem kn_y : (agSubmits ag00 1 ⟨#[120]⟩).refuses 1 (⟨#[121]⟩ : ByteArray).size = 0 := by decide +kernel
theorem kn_logs : skLogs (exN kn0 sk00 3).2 1 = [⟨#[120]⟩, ⟨#[121]⟩] := by decide +kernel
/-- The two ends at the head. -/
theorem ends_start {top : Nat} {C : AgentC top} {D : SinkC} {w x1 x2 : World} {va vs : Nat} {U V : Nat → Prop} (a1 : C.At x1 va ag00 U) (a2 : Below w.heap.size w x1) (a3 : ∀ j, U j → w.heap.size ≤ j) (s1 : D.At x2 vs sk00 V) (s2 : Below x1.heap.size x1 x2) (s3 : ∀ j, V j → x1.heap.size ≤ j) :
    Ends C D w.heap.size 0 x2 va vs ag00 sk00 (fun _ => False) ∧ Below w.heap.size w x2 := by
  have hw1 := a2.size
  have hw2 := s2.size
  have hUl := C.lt a1
  exact ⟨⟨⟨U, V, C.far a1 (E := fun _ => False) (far_below s2) (fun _ _ e => e), s1, fun j hj e => by have := hUl j hj; have := s3 j e; omega, a3, fun j hj => Nat.le_trans hw1 (s3 j hj), fun j hj => hj.elim⟩, agGood_zero 0, skGood_new, by omega⟩, a2.trans (s2.mono hw1)⟩
theorem keepAgent_00 {top : Nat} (C : AgentC top) (w : World) :
    Calls Tryz.prog 18 #[] w fun r y => ∃ v U, r = .returned (ptrTo v) ∧ C.At y v ag00 U ∧ Below w.heap.size w y ∧ ∀ j, U j → w.heap.size ≤ j := keepAgent_any C w
theorem keepSink_00 (D : SinkC) (w : World) :
    Calls Tryz.prog 19 #[] w fun r y => ∃ v U, r = .returned (ptrTo v) ∧ D.At y v sk00 U ∧ Below w.heap.size w y ∧ ∀ j, U j → w.heap.size ≤ j := keepSink_any D w
/-- A list of strings that came out, in the older world's frame. -/
def OutL (B : Nat) (w : World) (v : Value) (l : List ByteArray) : Prop := ∃ ad cap, v = .slice ad l.length cap ∧ l.length ≤ cap ∧ cap ≤ maxLen ∧ (0 < l.length → ∃ g o, ad = some ⟨g, o, none⟩ ∧ B ≤ g ∧ g < w.heap.size ∧ ∀ i, i < l.length → w.cell? ⟨g, o + i, none⟩ = (strs l)[i]?)
theorem outL {B : Nat} {w : World} {v : Value} {l : List ByteArray} (h : w.ownsRow B 9 1 v l.length (strs l)) : OutL B w v l := by
  have hl := listAt_own h
  obtain ⟨ad, cap, e, h1, h2, h3⟩ := hl
  rw [strs_length] at e h1 h3
  refine ⟨ad, cap, e, h1, h2, fun h0 => ?_⟩
  obtain ⟨g, o, e2, h4, h5⟩ := h3 h0
  have := World.ownsRow.lt h g (by rw [e, e2]; rfl)
  exact ⟨g, o, e2, this.1, h4, fun i hi => h5 i hi⟩
theorem OutL.far {B : Nat} {x y : World} {v : Value} {l : List ByteArray} {E : Nat → Prop} (h : OutL B x v l) (hF : Far E x y) (hE : ∀ j, B ≤ j → j < x.heap.size → ¬ E j) : OutL B y v l := by
  obtain ⟨ad, cap, e, h1, h2, h3⟩ := h
  refine ⟨ad, cap, e, h1, h2, fun h0 => ?_⟩
  obtain ⟨g, o, e2, h4, h5, h6⟩ := h3 h0
  exact ⟨g, o, e2, h4, Nat.lt_of_lt_of_le h5 hF.size, fun i hi => by rw [← h6 i hi]; unfold World.cell?; simp only [hF.rest g h5 (hE g h4 h5)]⟩
set_option maxRecDepth 100000 in
set_option maxHeartbeats 4000000 in
theorem known_any {top : Nat} (C : AgentC top) (D : SinkC) (ht : 1000 ≤ top) (w : World) :
    Calls Tryz.prog 20 #[] w fun r y => r = .returned (.bool true) ∧ Below w.heap.size w y := by
  go_enter Tryz.func20, Tryz.ntmps20
  go_upto_region 2 with (go_at_call 18; refine (keepAgent_00 C _).mono ?_; rintro r x1 ⟨va, U, rfl, k1, k2, k3⟩; have HA := hide (And.intro k1 (And.intro k2 k3)); clear k1 k2 k3)
  go_upto_region 3 with (go_at_call 19; refine (keepSink_00 D _).mono ?_; rintro r x2 ⟨vs, V, rfl, k1, k2, k3⟩; have HS := hide (And.intro k1 (And.intro k2 k3)); clear k1 k2 k3)
  unfold ptrTo at *
  have HE := hide (ends_start (unhide HA).1 (unhide HA).2.1 (unhide HA).2.2 (unhide HS).1 (unhide HS).2.1 (unhide HS).2.2)
  clear HA HS
  have H1 := (unhide HE).1.submit (by omega) 1 ⟨#[120]⟩
  rw [kn_x] at H1
  replace H1 := hide H1
  unfold ptrTo at H1
  go_upto_region 6 with (go_at_call 21; refine (unhide H1).mono ?_; rintro r y1 ⟨rfl, k1, k2⟩; have HE1 := hide (And.intro k1 ((unhide HE).2.trans (k2.bel (unhide HE).1.bx))); clear k1 k2)
  clear HE H1
  have H2 := (unhide HE1).1.submit (by omega) 1 ⟨#[121]⟩
  rw [kn_y, ← kn_is] at H2
  replace H2 := hide H2
  unfold ptrTo at H2
  go_upto_region 7 with (go_at_call 21; refine (unhide H2).mono ?_; rintro r y2 ⟨rfl, k1, k2⟩; have HE2 := hide (And.intro k1 ((unhide HE1).2.trans (k2.bel (unhide HE1).1.bx))); clear k1 k2)
  clear HE1 H2
  have HOK := hide kn_ok
  have HLG := hide kn_logs
  have HSP := hide kn_spool
  have HRF := hide kn_ref
  have HMO := hide kn_more
  have hz : exN kn0 sk00 0 = (kn0, sk00) := rfl
  have hs := exN_succ kn0 sk00
  generalize exN kn0 sk00 = A4 at HOK HLG HSP HRF HMO hz hs
  have HZ := hide hz
  have HN4 := hide hs
  clear hz hs
  go_wp2
  go_loopw [5, 6, 7] (fun i _ _ wr => ∃ t : Nat, t ≤ 3 ∧ i = .int .i64 t ∧ Ends C D w.heap.size (2 + t) wr va vs (A4 t).1 (A4 t).2 (fun _ => False) ∧ Below w.heap.size w wr) (fun i _ _ _ => 3 - (intOf i).toNat)
  case atStart =>
    refine ⟨0, by omega, rfl, ?_, (unhide HE2).2⟩
    rw [unhide HZ]
    exact (unhide HE2).1
  case round =>
    obtain ⟨t4, ht4, rfl, hE, hB⟩ := hrel
    clear HE2
    by_cases hlt4 : t4 < 3
    · have hji : (t4 : Int) < 3 := by omega
      have HX0 := exchange_any C D w.heap.size (2 + t4) _ va vs _ _ _ hE (by omega)
      rw [(unhide HOK) t4 hlt4] at HX0
      have e4 := (unhide HN4) t4
      have e1 : (exchM (A4 t4).1 (A4 t4).2).1 = (A4 (t4 + 1)).1 := by rw [e4]
      have e2 : (exchM (A4 t4).1 (A4 t4).2).2.1 = (A4 (t4 + 1)).2 := by rw [e4]
      rw [e1, e2] at HX0
      clear e4 e1 e2
      generalize (((A4 t4).1.tick.2.length : Nat) : Int) = nx at HX0
      have HX := hide HX0
      have HBX := hide hE.bx
      have HB := hide hB
      unfold ptrTo at HX
      clear hE hB HX0
      go_wp2_with (go_at_call 31; refine (unhide HX).mono ?_; rintro r y7 ⟨rfl, k1, k2⟩; have HE7 := hide k1; have HS7 := hide k2; clear k1 k2)
      go_roundw
      case rel => exact ⟨t4 + 1, by omega, by go_num, unhide HE7, (unhide HB).trans ((unhide HS7).bel (unhide HBX))⟩
      case measure => simp [intOf]; omega
    · have ht43 : t4 = 3 := by omega
      subst ht43
      have hji : ¬ ((3 : Nat) : Int) < 3 := by omega
      have HL0 := hE.log 1
      have hlg : skLogs (A4 3).2 1 = [⟨#[120]⟩, ⟨#[121]⟩] := unhide HLG
      rw [hlg] at HL0
      have HL := hide HL0
      have HB := hide hB
      have HE := hide hE
      unfold ptrTo at HL
      clear hE hB HL0 hlg
      go_upto_region 14 with (go_at_call 32; refine (unhide HL).mono ?_; rintro r z1 ⟨lv1, rfl, k1, k2, k3⟩; have HO1 := hide (outL k1); have HE1 := hide (And.intro k2 ((unhide HB).trans (k3.mono (unhide HB).size))); clear k1 k2 k3)
      have HL0 := (unhide HE1).1.spool 1
      have hlg : agSpools (A4 3).1 1 = [] := unhide HSP
      rw [hlg] at HL0
      have HK := hide HL0
      unfold ptrTo at HK
      clear HL0 hlg HE HL
      go_upto_region 15 with (go_at_call 26; refine (unhide HK).mono ?_; rintro r z2 ⟨lv2, rfl, k1, k2, k3⟩; have HO2 := hide (outL k1); have HE2 := hide (And.intro k2 ((unhide HE1).2.trans (k3.mono (unhide HE1).2.size))); have HF2 := hide k3; clear k1 k2 k3)
      have HU0 := (unhide HE2).1.submit (by omega) 1 ⟨#[122]⟩
      have hr0 : (A4 3).1.refuses 1 (⟨#[122]⟩ : ByteArray).size = 0 := unhide HRF
      rw [hr0] at HU0
      have HU := hide HU0
      unfold ptrTo at HU
      clear HU0 hr0 HE1 HK
      go_upto_region 16 with (go_at_call 21; refine (unhide HU).mono ?_; rintro r z3 ⟨rfl, k1, k2⟩; have HE3 := hide (And.intro k1 ((unhide HE2).2.trans (k2.bel (unhide HE2).1.bx))); have HF3 := hide k2; clear k1 k2)
      have HL0 := (unhide HE3).1.spool 1
      have hlg : agSpools (agSubmits (A4 3).1 1 ⟨#[122]⟩) 1 = [⟨#[122]⟩] := unhide HMO
      rw [hlg] at HL0
      have HK := hide HL0
      unfold ptrTo at HK
      clear HL0 hlg HU
      go_upto_region 17 with (go_at_call 26; refine (unhide HK).mono ?_; rintro r z4 ⟨lv4, rfl, k1, k2, k3⟩; have HO4 := hide (outL k1); have HB4 := hide ((unhide HE3).2.trans (k3.mono (unhide HE3).2.size)); have HF4 := hide k3; clear k1 k2 k3)
      have o1 := (unhide HO1).far (far_below (unhide HF2)) (fun _ _ _ e => e)
      have o1 := o1.far (unhide HF3) (fun j h1 h2 e => e.2 (by
        by_cases hj : j < z1.heap.size
        · exact .inl (.inr ⟨h1, hj⟩)
        · exact .inr ⟨by omega, h2⟩))
      have o1 := o1.far (far_below (unhide HF4)) (fun _ _ _ e => e)
      obtain ⟨ad1, cap1, rfl, l1, m1, n1⟩ := o1
      obtain ⟨g1, p1, rfl, _, _, n1⟩ := n1 (by decide)
      have c0 : z4.cell? ⟨g1, p1, none⟩ = some (.string ⟨#[120]⟩) := n1 0 (by decide)
      have c1 : z4.cell? ⟨g1, p1 + 1, none⟩ = some (.string ⟨#[121]⟩) := n1 1 (by decide)
      obtain ⟨ad2, cap2, rfl, l2, m2, _⟩ := unhide HO2
      obtain ⟨ad4, cap4, rfl, l4, m4, n4⟩ := unhide HO4
      obtain ⟨g4, p4, rfl, _, _, n4⟩ := n4 (by decide)
      have c4 : z4.cell? ⟨g4, p4, none⟩ = some (.string ⟨#[122]⟩) := n4 0 (by decide)
      clear n1 n4 HO1 HO2 HO4 HF2 HF3 HF4 HE2 HE3
      simp only [List.length_cons, List.length_nil, Nat.zero_add] at *
      go_wp2
      go_ret
      exact ⟨rfl, unhide HB4⟩
end Go.Proofs.YtamafdcnbcoegaaGreat
namespace Go.Proofs.YtamafdcnbcoegaaGreat
open Go.RowKit

set_option maxRecDepth 100000 in
set_option maxHeartbeats 1000000 in
theorem diskImage_any {w : World} {p : Nat} {d : Mod.Dk} {lv uv : Value} (H : DkAt w p d lv uv) (keep : Int) :
    Calls Tryz.prog 144 #[ptrTo p, .int .u64 keep] w fun r w' => ∃ v', r = .returned v' ∧ Owns w.heap.size w' v' d.bytes ∧ Below w.heap.size w w' := by
  obtain ⟨ad, cap, hlv, _⟩ := (RowO.of_own H.row).shape
  obtain ⟨ud, ucap, huv, _⟩ := H.un.shape
  have hlen := H.len
  have hat : BytesAt w lv d.bytes := (show Owns 0 w lv d.bytes from H.row).at
  have HC := hide (cloneBytes_any w lv d.bytes hat (by omega) hlen.2)
  have c0 : w.cell? ⟨p, 0, none⟩ = some lv := blk_cell (i := 0) H.blk
  have c1 := blk_cell (i := 1) H.blk
  simp at c1
  rw [huv] at c1
  have hpl := lt_of_block H.blk
  rw [hlv] at c0 HC
  clear hat hlv huv H
  unfold ptrTo
  go_enter Tryz.func144, Tryz.ntmps144
  go_upto_region 2 with (go_at_call 192; refine (unhide HC).mono ?_; rintro r y ⟨v', rfl, hown, hb⟩; obtain ⟨vad, vcap, rfl, _⟩ := hown.shape)
  have c1 := (hb.cell (p := ⟨p, 1, none⟩) hpl).trans c1
  have HO := hide (And.intro hown hb)
  clear hown hb c0
  go_wp2
  go_loopw [6, 7, 18] (fun _ _ i wr => i = .int .i64 0 ∧ wr = y) (fun _ _ _ _ => 0)
  case atStart => exact ⟨rfl, rfl⟩
  case round =>
    obtain ⟨rfl, rfl⟩ := hrel
    go_wp2
    go_ret
    exact ⟨_, rfl, (unhide HO).1, (unhide HO).2⟩
theorem storeImage_any {w : World} {s dp : Nat} {st : Mod.Stv} {lv uv : Value} (H : StAt w s dp st lv uv) (keep : Int) :
    Calls Tryz.prog 99 #[ptrTo s, .int .u64 keep] w fun r w' => ∃ v', r = .returned v' ∧ Owns w.heap.size w' v' st.dk.bytes ∧ Below w.heap.size w w' := by
  have c0 : w.cell? ⟨s, 0, none⟩ = some (ptrTo dp) := blk_cell (i := 0) H.blk
  have HI := hide (diskImage_any H.dk keep)
  clear H
  unfold ptrTo at *
  go_enter Tryz.func99, Tryz.ntmps99
  go_wp2_with (go_at_call 144; refine (unhide HI).mono ?_; rintro r y ⟨v', rfl, hown, hb⟩; replace hown := hide hown; replace hb := hide hb)
  go_ret
  exact ⟨_, rfl, unhide hown, unhide hb⟩
end Go.Proofs.YtamafdcnbcoegaaGreat
namespace Go.Proofs.YtamafdcnbcoegaaGreat
open Go.RowKit

set_option maxHeartbeats 1000000 in
theorem sinkImage_any {w : World} {p e : Nat} {logs : Nat → List ByteArray} {sh : Nat → List (Nat × Value)} {st : Mod.Stv} {c : Sv} (H : PkAt w p e logs sh st c) (keep : Int) :
    Calls Tryz.prog 59 #[ptrTo p, .int .u64 keep] w fun r w' => ∃ v', r = .returned v' ∧ Owns w.heap.size w' v' st.dk.bytes ∧ Below w.heap.size w w' := by
  have c0 : w.cell? ⟨p, 0, none⟩ = some (ptrTo c.s) := by rw [blk_cell H.ks.blk, H.ks.a0]
  have HI := hide (storeImage_any H.stt keep)
  clear H
  unfold ptrTo at *
  go_enter Tryz.func59, Tryz.ntmps59
  go_wp2_with (go_at_call 99; refine (unhide HI).mono ?_; rintro r y ⟨v', rfl, hown, hb⟩; replace hown := hide hown; replace hb := hide hb)
  go_ret
  exact ⟨_, rfl, unhide hown, unhide hb⟩
set_option maxHeartbeats 1000000 in
theorem agImage_any {w : World} {p : Nat} {g : Nat → Nat} {tk : Nat} {wel fen : Bool} {free : List Nat} {sh : Nat → List (Nat × Value)} {st : Mod.Stv} {c : Av} (H : PaAt w p g tk wel fen free sh st c) (keep : Int) :
    Calls Tryz.prog 58 #[ptrTo p, .int .u64 keep] w fun r w' => ∃ v', r = .returned v' ∧ Owns w.heap.size w' v' st.dk.bytes ∧ Below w.heap.size w w' := by
  have c0 : w.cell? ⟨p, 0, none⟩ = some (ptrTo c.s) := by rw [blk_cell H.ks.blk, H.ks.a0]
  have HI := hide (storeImage_any H.stt keep)
  clear H
  unfold ptrTo at *
  go_enter Tryz.func58, Tryz.ntmps58
  go_wp2_with (go_at_call 99; refine (unhide HI).mono ?_; rintro r y ⟨v', rfl, hown, hb⟩; replace hown := hide hown; replace hb := hide hb)
  go_ret
  exact ⟨_, rfl, unhide hown, unhide hb⟩
set_option maxHeartbeats 1000000 in
theorem csImageOf {w : World} {v p e : Nat} {logs : Nat → List ByteArray} {sh : Nat → List (Nat × Value)} {st : Mod.Stv} {c : Sv} (hb : w.heap[v]? = some (.cells #[ptrTo p] 93 (0, 0))) (H : PkAt w p e logs sh st c) (keep : Int) :
    Calls Tryz.prog 30 #[ptrTo v, .int .u64 keep] w fun r w' => ∃ v', r = .returned v' ∧ Owns w.heap.size w' v' st.dk.bytes ∧ Below w.heap.size w w' := by
  have c0 : w.cell? ⟨v, 0, none⟩ = some (ptrTo p) := blk_cell (i := 0) hb
  have HI := hide (sinkImage_any H keep)
  clear H hb
  unfold ptrTo at *
  go_enter Tryz.func30, Tryz.ntmps30
  go_wp2_with (go_at_call 59; refine (unhide HI).mono ?_; rintro r y ⟨v', rfl, hown, hb⟩; replace hown := hide hown; replace hb := hide hb)
  go_ret
  exact ⟨_, rfl, unhide hown, unhide hb⟩
set_option maxHeartbeats 1000000 in
theorem caImageOf {w : World} {v p : Nat} {g : Nat → Nat} {tk : Nat} {wel fen : Bool} {free : List Nat} {sh : Nat → List (Nat × Value)} {st : Mod.Stv} {c : Av} (hb : w.heap[v]? = some (.cells #[ptrTo p] 90 (0, 0))) (H : PaAt w p g tk wel fen free sh st c) (keep : Int) :
    Calls Tryz.prog 29 #[ptrTo v, .int .u64 keep] w fun r w' => ∃ v', r = .returned v' ∧ Owns w.heap.size w' v' st.dk.bytes ∧ Below w.heap.size w w' := by
  have c0 : w.cell? ⟨v, 0, none⟩ = some (ptrTo p) := blk_cell (i := 0) hb
  have HI := hide (agImage_any H keep)
  clear H hb
  unfold ptrTo at *
  go_enter Tryz.func29, Tryz.ntmps29
  go_wp2_with (go_at_call 58; refine (unhide HI).mono ?_; rintro r y ⟨v', rfl, hown, hb⟩; replace hown := hide hown; replace hb := hide hb)
  go_ret
  exact ⟨_, rfl, unhide hown, unhide hb⟩
/-- Whatever is made beside a sink, its disk would hold the same. -/
theorem csImage_any {w : World} {v : Nat} {a : Mod.Sk} {U : Nat → Prop} (h : CsAt w v a U) : ∃ L : List UInt8, 0 < L.length ∧ L.length ≤ 10000 ∧ ∀ x, Below w.heap.size w x →
    Calls Tryz.prog 30 #[ptrTo v, .int .u64 0] x fun r y => ∃ v', r = .returned v' ∧ Owns x.heap.size y v' L ∧ Below x.heap.size x y := by
  obtain ⟨p, sh, st, c, hb, H, hs, O, M, rfl⟩ := h
  refine ⟨st.dk.bytes, by have := H.stt.dk.len.1; omega, H.stt.dk.len.2, fun x hx => ?_⟩
  exact csImageOf ((hx.block _ (lt_of_block hb)).trans hb) (H.far (E := fun _ => False) (far_below hx) (fun _ _ e => e)) 0
theorem caImage_any {w : World} {v : Nat} {a : Mod.Ag} {U : Nat → Prop} (h : CaAt w v a U) : ∃ L : List UInt8, 0 < L.length ∧ L.length ≤ 10000 ∧ ∀ x, Below w.heap.size w x →
    Calls Tryz.prog 29 #[ptrTo v, .int .u64 0] x fun r y => ∃ v', r = .returned v' ∧ Owns x.heap.size y v' L ∧ Below x.heap.size x y := by
  obtain ⟨p, g, free, sh, pl, st, c, hb, H, hs, O, rfl⟩ := h
  refine ⟨st.dk.bytes, by have := H.stt.dk.len.1; omega, H.stt.dk.len.2, fun x hx => ?_⟩
  exact caImageOf ((hx.block _ (lt_of_block hb)).trans hb) (H.far (E := fun _ => False) (far_below hx) (fun _ _ e => e)) 0
set_option maxRecDepth 100000 in
set_option maxHeartbeats 4000000 in
theorem sinkDeliver_deaf {w : World} {p e : Nat} {logs : Nat → List ByteArray} {sh : Nat → List (Nat × Value)} {st : Mod.Stv} {c : Sv} (H : PkAt w p e logs sh st c) (hs : st.dk.dead = false) (bs : Value) (l : List UInt8) (hat : BytesAt w bs l) (hr : Wire.reads l = false) :
    Calls Tryz.prog 56 #[ptrTo p, bs] w fun r z => r = .returned (.tuple #[.slice none 0 0, .int .i64 1]) ∧ Below w.heap.size w z := by
  have c0 : w.cell? ⟨p, 0, none⟩ = some (ptrTo c.s) := by rw [blk_cell H.ks.blk, H.ks.a0]
  have hID := storeIsDead_any H.stt
  rw [hs] at hID
  have HID := hide hID
  have hDC := decode_any bs l w hat
  rw [hr] at hDC
  simp only [Bool.false_eq_true, if_false, zeroFr] at hDC
  have HDC := hide hDC
  clear H hID hDC
  unfold ptrTo at *
  go_enter Tryz.func56, Tryz.ntmps56
  go_wp2_with (first | (go_at_call 86; refine (unhide HID).mono ?_; rintro r y ⟨rfl, rfl⟩) | (go_at_call 54; refine (unhide HDC).mono ?_; rintro r y ⟨rfl, hb⟩; replace hb := hide hb))
  go_ret2
  exact ⟨rfl, (unhide hb).alloc (unhide hb).size _⟩
set_option maxRecDepth 100000 in
set_option maxHeartbeats 4000000 in
theorem agDeliver_deaf {w : World} {p : Nat} {g : Nat → Nat} {tk : Nat} {wel fen : Bool} {free : List Nat} {sh : Nat → List (Nat × Value)} {st : Mod.Stv} {c : Av} (H : PaAt w p g tk wel fen free sh st c) (hs : st.dk.dead = false) (bs : Value) (l : List UInt8) (hat : BytesAt w bs l) (hr : Wire.reads l = false) :
    Calls Tryz.prog 57 #[ptrTo p, bs] w fun r z => r = .returned (.int .i64 1) ∧ Below w.heap.size w z := by
  have c0 : w.cell? ⟨p, 0, none⟩ = some (ptrTo c.s) := by rw [blk_cell H.ks.blk, H.ks.a0]
  have hID := storeIsDead_any H.stt
  rw [hs] at hID
  have HID := hide hID
  have hDC := decode_any bs l w hat
  rw [hr] at hDC
  simp only [Bool.false_eq_true, if_false, zeroFr] at hDC
  have HDC := hide hDC
  clear H hID hDC
  unfold ptrTo at *
  go_enter Tryz.func57, Tryz.ntmps57
  go_wp2_with (first | (go_at_call 86; refine (unhide HID).mono ?_; rintro r y ⟨rfl, rfl⟩) | (go_at_call 54; refine (unhide HDC).mono ?_; rintro r y ⟨rfl, hb⟩; replace hb := hide hb))
  go_ret
  exact ⟨rfl, (unhide hb).alloc (unhide hb).size _⟩
set_option maxHeartbeats 1000000 in
theorem csDeaf_any {w : World} {v : Nat} {a : Mod.Sk} {U : Nat → Prop} (bs : Value) (l : List UInt8) (h : CsAt w v a U) (hat : BytesAt w bs l) (hr : Wire.reads l = false) :
    Calls Tryz.prog 27 #[ptrTo v, bs] w fun r z => r = .returned (.tuple #[.slice none 0 0, .int .i64 1]) ∧ Below w.heap.size w z := by
  obtain ⟨p, sh, st, c, hb, H, hs, O, M, rfl⟩ := h
  have c0 : w.cell? ⟨v, 0, none⟩ = some (ptrTo p) := blk_cell (i := 0) hb
  have HD := hide (sinkDeliver_deaf H hs.1 bs l hat hr)
  clear H hb hat
  unfold ptrTo at c0 HD
  show Calls Tryz.prog _ #[.pointer (some ⟨v, 0, none⟩), bs] w _
  go_enter Tryz.func27, Tryz.ntmps27
  go_wp2_with (go_at_call 56; refine (unhide HD).mono ?_; rintro r y ⟨rfl, k1⟩; replace k1 := hide k1)
  go_ret2
  exact ⟨rfl, unhide k1⟩
set_option maxHeartbeats 1000000 in
theorem caDeaf_any {w : World} {v : Nat} {a : Mod.Ag} {U : Nat → Prop} (bs : Value) (l : List UInt8) (h : CaAt w v a U) (hat : BytesAt w bs l) (hr : Wire.reads l = false) :
    Calls Tryz.prog 28 #[ptrTo v, bs] w fun r z => r = .returned (.int .i64 1) ∧ Below w.heap.size w z := by
  obtain ⟨p, g, free, sh, pl, st, c, hb, H, hs, O, rfl⟩ := h
  have c0 : w.cell? ⟨v, 0, none⟩ = some (ptrTo p) := blk_cell (i := 0) hb
  have HD := hide (agDeliver_deaf H hs.1 bs l hat hr)
  clear H hb hat
  unfold ptrTo at c0 HD
  show Calls Tryz.prog _ #[.pointer (some ⟨v, 0, none⟩), bs] w _
  go_enter Tryz.func28, Tryz.ntmps28
  go_wp2_with (go_at_call 57; refine (unhide HD).mono ?_; rintro r y ⟨rfl, k1⟩; replace k1 := hide k1)
  go_ret
  exact ⟨rfl, unhide k1⟩
end Go.Proofs.YtamafdcnbcoegaaGreat

namespace Go.Proofs.YtamafdcnbcoegaaGreat
open Go.RowKit

/-- What noise does not do. -/
structure NoiseC {top : Nat} (C : AgentC top) (D : SinkC) : Prop where
  deafA : ∀ {w : World} {v : Nat} {a : Mod.Ag} {U : Nat → Prop} (bs : Value) (l : List UInt8), C.At w v a U → BytesAt w bs l → Wire.reads l = false →
    Calls Tryz.prog 28 #[ptrTo v, bs] w fun r z => r = .returned (.int .i64 1) ∧ Below w.heap.size w z
  deafS : ∀ {w : World} {v : Nat} {a : Mod.Sk} {U : Nat → Prop} (bs : Value) (l : List UInt8), D.At w v a U → BytesAt w bs l → Wire.reads l = false →
    Calls Tryz.prog 27 #[ptrTo v, bs] w fun r z => r = .returned (.tuple #[.slice none 0 0, .int .i64 1]) ∧ Below w.heap.size w z
  imgA : ∀ {w : World} {v : Nat} {a : Mod.Ag} {U : Nat → Prop}, C.At w v a U → ∃ L : List UInt8, 0 < L.length ∧ L.length ≤ 10000 ∧ ∀ x, Below w.heap.size w x →
    Calls Tryz.prog 29 #[ptrTo v, .int .u64 0] x fun r y => ∃ v', r = .returned v' ∧ Owns x.heap.size y v' L ∧ Below x.heap.size x y
  imgS : ∀ {w : World} {v : Nat} {a : Mod.Sk} {U : Nat → Prop}, D.At w v a U → ∃ L : List UInt8, 0 < L.length ∧ L.length ≤ 10000 ∧ ∀ x, Below w.heap.size w x →
    Calls Tryz.prog 30 #[ptrTo v, .int .u64 0] x fun r y => ∃ v', r = .returned v' ∧ Owns x.heap.size y v' L ∧ Below x.heap.size x y
theorem theNoise : NoiseC theAgent theSink := ⟨caDeaf_any, csDeaf_any, caImage_any, csImage_any⟩

/-- Two pairs of ends, apart from each other. -/
structure TwoAt {top : Nat} (C : AgentC top) (D : SinkC) (B N : Nat) (x : World) (va vs vb vt : Nat) (a : Mod.Ag) (k : Mod.Sk) (b : Mod.Ag) (l : Mod.Sk) : Prop where
  all : ∃ (U V U' V' : Nat → Prop), C.At x va a U ∧ D.At x vs k V ∧ C.At x vb b U' ∧ D.At x vt l V' ∧ (∀ j, U j → ¬ V j) ∧ (∀ j, U' j → ¬ V' j) ∧ (∀ j, (U j ∨ V j) → ¬ (U' j ∨ V' j)) ∧ (∀ j, (U j ∨ V j) → B ≤ j) ∧ (∀ j, (U' j ∨ V' j) → B ≤ j)
  ga : AgGood N a
  gk : SkGood k
  gb : AgGood N b
  gl : SkGood l
  bx : B ≤ x.heap.size
section
variable {top : Nat} {C : AgentC top} {D : SinkC} {B N : Nat} {x y : World} {va vs vb vt : Nat} {a b : Mod.Ag} {k l : Mod.Sk}
theorem TwoAt.swap (h : TwoAt C D B N x va vs vb vt a k b l) : TwoAt C D B N x vb vt va vs b l a k := by
  obtain ⟨U, V, U', V', h1, h2, h3, h4, h5, h6, h7, h8, h9⟩ := h.all
  exact ⟨⟨U', V', U, V, h3, h4, h1, h2, h6, h5, fun j hj e => h7 j e hj, h9, h8⟩, h.gb, h.gl, h.ga, h.gk, h.bx⟩
theorem TwoAt.far {E : Nat → Prop} (h : TwoAt C D B N x va vs vb vt a k b l) (hF : Far E x y) (hE : ∀ j, E j → j < B) : TwoAt C D B N y va vs vb vt a k b l := by
  obtain ⟨U, V, U', V', h1, h2, h3, h4, h5, h6, h7, h8, h9⟩ := h.all
  have n : ∀ {j}, B ≤ j → ¬ E j := fun hj e => by have := hE _ e; omega
  exact ⟨⟨U, V, U', V', C.far h1 hF (fun j hj => n (h8 j (.inl hj))), D.far h2 hF (fun j hj => n (h8 j (.inr hj))), C.far h3 hF (fun j hj => n (h9 j (.inl hj))), D.far h4 hF (fun j hj => n (h9 j (.inr hj))), h5, h6, h7, h8, h9⟩, h.ga, h.gk, h.gb, h.gl, Nat.le_trans h.bx hF.size⟩
theorem TwoAt.below (h : TwoAt C D B N x va vs vb vt a k b l) (hb : Below x.heap.size x y) : TwoAt C D B N y va vs vb vt a k b l := h.far (E := fun _ => False) (far_below hb) (fun _ e => e.elim)
/-- The first pair alone. -/
theorem TwoAt.one (h : TwoAt C D B N x va vs vb vt a k b l) : ∃ G, Ends C D B N x va vs a k G ∧ ∀ {z : World} {a' : Mod.Ag} {k' : Mod.Sk} {M : Nat}, N ≤ M → Ends C D B M z va vs a' k' G → Same B G x z → TwoAt C D B M z va vs vb vt a' k' b l := by
  obtain ⟨U, V, U', V', h1, h2, h3, h4, h5, h6, h7, h8, h9⟩ := h.all
  have l3 := C.lt h3
  have l4 := D.lt h4
  refine ⟨fun j => U' j ∨ V' j, ⟨⟨U, V, h1, h2, h5, fun j hj => h8 j (.inl hj), fun j hj => h8 j (.inr hj), fun j hj => ⟨hj.elim (l3 j) (l4 j), fun e => h7 j (.inl e) hj, fun e => h7 j (.inr e) hj⟩⟩, h.ga, h.gk, h.bx⟩, ?_⟩
  intro z a' k' M hM hE hS
  obtain ⟨P, Q, p1, p2, p3, p4, p5, p6⟩ := hE.all
  exact ⟨⟨P, Q, U', V', p1, p2, C.far h3 hS (fun j hj e => e.2 (.inl hj)), D.far h4 hS (fun j hj e => e.2 (.inr hj)), p3, h6, fun j hj e => hj.elim (p6 j e).2.1 (p6 j e).2.2, fun j hj => hj.elim (p4 j) (p5 j), h9⟩, hE.ga, hE.gk, h.gb.mono hM, h.gl, hE.bx⟩
theorem TwoAt.mono {M : Nat} (h : TwoAt C D B N x va vs vb vt a k b l) (hM : N ≤ M) : TwoAt C D B M x va vs vb vt a k b l := ⟨h.all, h.ga.mono hM, h.gk, h.gb.mono hM, h.gl, h.bx⟩
theorem TwoAt.submit (h : TwoAt C D B N x va vs vb vt a k b l) (hN : N < top) (i : Int) (s : ByteArray) :
    Calls Tryz.prog 21 #[ptrTo va, .int .i64 i, .string s] x fun r y => r = .returned (.int .i64 (a.refuses i s.size)) ∧ TwoAt C D B (N + 1) y va vs vb vt (agSubmits a i s) k b l ∧ Below B x y := by
  obtain ⟨G, h1, h2⟩ := h.one
  refine (h1.submit hN i s).mono ?_
  rintro r y ⟨rfl, k1, k2⟩
  exact ⟨rfl, h2 (by omega) k1 k2, k2.bel h.bx⟩
theorem TwoAt.exch (h : TwoAt C D B N x va vs vb vt a k b l) (hN : N + 1 < top) :
    Calls Tryz.prog 31 #[ptrTo va, ptrTo vs] x fun r y => r = .returned (.tuple #[.int .i64 a.tick.2.length, .bool (exchM a k).2.2]) ∧ TwoAt C D B (N + 1) y va vs vb vt (exchM a k).1 (exchM a k).2.1 b l ∧ Below B x y := by
  obtain ⟨G, h1, h2⟩ := h.one
  refine (exchange_any C D B N x va vs a k G h1 hN).mono ?_
  rintro r y ⟨rfl, k1, k2⟩
  exact ⟨rfl, h2 (by omega) k1 k2, k2.bel h.bx⟩
theorem TwoAt.log (h : TwoAt C D B N x va vs vb vt a k b l) (i : Int) :
    Calls Tryz.prog 32 #[ptrTo vs, .int .i64 i] x fun r y => ∃ lv, r = .returned lv ∧ y.ownsRow x.heap.size 9 1 lv (skLogs k i).length (strs (skLogs k i)) ∧ TwoAt C D B N y va vs vb vt a k b l ∧ Below x.heap.size x y := by
  obtain ⟨U, V, U', V', h1, h2, _⟩ := h.all
  refine (D.log i h2 h.gk).mono ?_
  rintro r y ⟨lv, rfl, k1, k2⟩
  exact ⟨lv, rfl, k1, h.below k2, k2⟩
theorem TwoAt.deafA (h : TwoAt C D B N x va vs vb vt a k b l) (hN : NoiseC C D) (bs : Value) (s : List UInt8) (hat : BytesAt x bs s) (hr : Wire.reads s = false) :
    Calls Tryz.prog 28 #[ptrTo va, bs] x fun r y => r = .returned (.int .i64 1) ∧ Below x.heap.size x y := by
  obtain ⟨U, V, U', V', h1, h2, _⟩ := h.all
  exact hN.deafA bs s h1 hat hr
theorem TwoAt.deafS (h : TwoAt C D B N x va vs vb vt a k b l) (hN : NoiseC C D) (bs : Value) (s : List UInt8) (hat : BytesAt x bs s) (hr : Wire.reads s = false) :
    Calls Tryz.prog 27 #[ptrTo vs, bs] x fun r y => r = .returned (.tuple #[.slice none 0 0, .int .i64 1]) ∧ Below x.heap.size x y := by
  obtain ⟨U, V, U', V', h1, h2, _⟩ := h.all
  exact hN.deafS bs s h2 hat hr
theorem TwoAt.imgs (h : TwoAt C D B N x va vs vb vt a k b l) (hN : NoiseC C D) : ∃ LA LS : List UInt8, 0 < LA.length ∧ LA.length ≤ 10000 ∧ 0 < LS.length ∧ LS.length ≤ 10000 ∧
    (∀ z, Below x.heap.size x z → Calls Tryz.prog 29 #[ptrTo va, .int .u64 0] z fun r y => ∃ v', r = .returned v' ∧ Owns z.heap.size y v' LA ∧ Below z.heap.size z y) ∧
    (∀ z, Below x.heap.size x z → Calls Tryz.prog 30 #[ptrTo vs, .int .u64 0] z fun r y => ∃ v', r = .returned v' ∧ Owns z.heap.size y v' LS ∧ Below z.heap.size z y) := by
  obtain ⟨U, V, U', V', h1, h2, _⟩ := h.all
  obtain ⟨LA, l0, l1, l2⟩ := hN.imgA h1
  obtain ⟨LS, m0, l3, l4⟩ := hN.imgS h2
  exact ⟨LA, LS, l0, l1, m0, l3, l2, l4⟩
end
/-- Four ends at the head. -/
theorem two_start {top : Nat} {C : AgentC top} {D : SinkC} {w x1 x2 x3 x4 : World} {va vb vs vt : Nat} {U U' V V' : Nat → Prop} (a1 : C.At x1 va ag00 U) (a2 : Below w.heap.size w x1) (a3 : ∀ j, U j → w.heap.size ≤ j) (b1 : C.At x2 vb ag00 U') (b2 : Below x1.heap.size x1 x2) (b3 : ∀ j, U' j → x1.heap.size ≤ j)
    (s1 : D.At x3 vs sk00 V) (s2 : Below x2.heap.size x2 x3) (s3 : ∀ j, V j → x2.heap.size ≤ j) (t1 : D.At x4 vt sk00 V') (t2 : Below x3.heap.size x3 x4) (t3 : ∀ j, V' j → x3.heap.size ≤ j) :
    TwoAt C D w.heap.size 0 x4 va vs vb vt ag00 sk00 ag00 sk00 ∧ Below w.heap.size w x4 := by
  have z1 := a2.size
  have z2 := b2.size
  have z3 := s2.size
  have z4 := t2.size
  have u1 := C.lt a1
  have u2 := C.lt b1
  have u3 := D.lt s1
  have u4 := D.lt t1
  have F := fun {p q : World} (h : Below p.heap.size p q) => (far_below (E := fun _ => False) h)
  refine ⟨⟨⟨U, V, U', V', C.far (C.far (C.far a1 (F b2) (fun _ _ e => e)) (F s2) (fun _ _ e => e)) (F t2) (fun _ _ e => e), D.far s1 (F t2) (fun _ _ e => e), C.far (C.far b1 (F s2) (fun _ _ e => e)) (F t2) (fun _ _ e => e), t1, fun j hj e => ?_, fun j hj e => ?_, fun j hj e => ?_, fun j hj => ?_, fun j hj => ?_⟩, agGood_zero 0, skGood_new, agGood_zero 0, skGood_new, by omega⟩, a2.trans ((b2.trans ((s2.trans (t2.mono z3)).mono z2)).mono z1)⟩
  · have := u1 j hj; have := s3 j e; omega
  · have := u2 j hj; have := t3 j e; omega
  · rcases hj with hj | hj <;> rcases e with e | e
    · have := u1 j hj; have := b3 j e; omega
    · have := u1 j hj; have := t3 j e; omega
    · have := u2 j e; have := s3 j hj; omega
    · have := u3 j hj; have := t3 j e; omega
  · rcases hj with hj | hj
    · exact a3 j hj
    · have := s3 j hj; omega
  · rcases hj with hj | hj
    · have := b3 j hj; omega
    · have := t3 j hj; omega
/-- So many records have been taken, of the streams in turn. -/
def turnS (i : Nat) : Nat := i % 3
theorem turnS_lt (i : Nat) : turnS i < 3 := by unfold turnS; omega
theorem take_turn {i : Nat} (hi : i < 12) : (takeN turnS i).refuses (turnS i : Nat) (digB i).size = 0 ∧ agSubmits (takeN turnS i) (turnS i : Nat) (digB i) = takeN turnS (i + 1) := by
  have hs : (digB i).size ≤ 20 := by have := digB_size (n := i) (by omega); omega
  have hr : (takeN turnS i).room < 24 := by rw [takeN_room turnS_lt]; omega
  exact ⟨refuses_ok (turnS_lt i) hs hr, submits_ok (turnS_lt i) hs hr⟩
end Go.Proofs.YtamafdcnbcoegaaGreat
namespace Go.Proofs.YtamafdcnbcoegaaGreat
/-- All exchanges are fine. -/
def fineB (a : Mod.Ag) (k : Mod.Sk) : Nat → Bool
  | 0 => true
  | t + 1 => (exchM a k).2.2 && fineB (exchM a k).1 (exchM a k).2.1 t
theorem exN_shift (a : Mod.Ag) (k : Mod.Sk) : ∀ t, exN a k (t + 1) = exN (exchM a k).1 (exchM a k).2.1 t
  | 0 => rfl
  | t + 1 => by
    rw [exN_succ, exN_shift a k t, exN_succ]
theorem fine_at {a : Mod.Ag} {k : Mod.Sk} : ∀ {n t : Nat}, fineB a k n = true → t < n → (exchM (exN a k t).1 (exN a k t).2).2.2 = true
  | 0, t, _, h => absurd h (Nat.not_lt_zero _)
  | n + 1, 0, h, _ => by
    unfold fineB at h
    rw [Bool.and_eq_true] at h
    exact h.1
  | n + 1, t + 1, h, ht => by
    unfold fineB at h
    rw [Bool.and_eq_true] at h
    rw [exN_shift]
    exact fine_at h.2 (by omega)
/-- A small number's digits. -/
def digT (n : Nat) : ByteArray := if n < 10 then ⟨#[UInt8.ofNat (48 + n)]⟩ else ⟨#[UInt8.ofNat (48 + n / 10), UInt8.ofNat (48 + n % 10)]⟩
theorem digB_T {n : Nat} (h : n < 100) : digB n = digT n := by
  unfold digB digT
  rw [digL]
  split
  · rfl
  · rw [digL, if_pos (by omega)]
    rfl
def takeT : Nat → Mod.Ag
  | 0 => { epoch := 1, ticks := 0, welcome := false, fenced := false, fl := fun _ => { base := 0, kept := [], held := [] } }
  | i + 1 => (takeT i).submit (turnS i) (digT i)
theorem takeN_T : ∀ m, m < 100 → takeN turnS m = takeT m
  | 0, _ => rfl
  | i + 1, h => by rw [takeN, takeT, takeN_T i (by omega), digB_T (by omega)]
theorem noise_T : ∀ m, m < 13 → fineB (takeT m) sk00 8 = true := by decide +kernel
theorem noise_fine (m : Nat) (h : m < 13) : fineB (takeN turnS m) sk00 8 = true := by
  rw [takeN_T m (by omega)]
  exact noise_T m h
end Go.Proofs.YtamafdcnbcoegaaGreat
namespace Go.Proofs.YtamafdcnbcoegaaGreat
open Go.RowKit

/-- Texts that came in. -/
def StrsIn (w : World) (ad : Option Addr) (len : Nat) : Prop := 0 < len → ∃ b0 off, ad = some ⟨b0, off, none⟩ ∧ b0 < w.heap.size ∧ ∀ i, i < len → ∃ s : ByteArray, s.size ≤ 140737488355328 ∧ w.cell? ⟨b0, off + i, none⟩ = some (.string s)
theorem conv_owns {B : Nat} {w : World} {v : Value} {l : List UInt8} (h : Owns B w v l) (h0 : 0 < l.length) : (convert 44 9 v).run Tryz.prog w = .ok (.string ⟨l.toArray⟩) w := by
  obtain ⟨g, cap, rfl, _, _, _, _, hc⟩ := h.addr h0
  exact conv_str rfl hc
set_option maxRecDepth 100000 in
set_option maxHeartbeats 16000000 in
theorem noise_any {top : Nat} (C : AgentC top) (D : SinkC) (HNC : NoiseC C D) (ht : 1000 ≤ top) (n : Int) (ad : Option Addr) (len cap : Nat) (w : World) (hlz : len ≤ 140737488355328) (hn : -9223372036854775808 ≤ n ∧ n ≤ 9223372036854775807) (h : StrsIn w ad len) :
    Calls Tryz.prog 8 #[.int .i64 n, .slice ad len cap] w fun r y => r = .returned (.bool true) ∧ Below w.heap.size w y := by
  have HI := hide h
  have HPK := fun y => hide (keepPick_any n 12 y hn (by omega) (by omega))
  have hm := pickN_lt n (n := 12) (by omega)
  generalize pickN n 12 = m at HPK hm
  clear h hn
  go_enter Tryz.func8, Tryz.ntmps8
  go_upto_region 2 with (go_at_call 18; refine (keepAgent_00 C _).mono ?_; rintro r x1 ⟨va, U, rfl, k1, k2, k3⟩; have HA := hide (And.intro k1 (And.intro k2 k3)); clear k1 k2 k3)
  go_upto_region 3 with (go_at_call 18; refine (keepAgent_00 C _).mono ?_; rintro r x2 ⟨vb, U', rfl, k1, k2, k3⟩; have HB := hide (And.intro k1 (And.intro k2 k3)); clear k1 k2 k3)
  go_upto_region 4 with (go_at_call 19; refine (keepSink_00 D _).mono ?_; rintro r x3 ⟨vs, V, rfl, k1, k2, k3⟩; have HS := hide (And.intro k1 (And.intro k2 k3)); clear k1 k2 k3)
  go_upto_region 5 with (go_at_call 19; refine (keepSink_00 D _).mono ?_; rintro r x4 ⟨vt, V', rfl, k1, k2, k3⟩; have HT := hide (And.intro k1 (And.intro k2 k3)); clear k1 k2 k3)
  go_upto_region 6 with (go_at_call 20; refine (known_any C D ht _).mono ?_; rintro r x5 ⟨rfl, k1⟩; have HK := hide k1; clear k1)
  unfold ptrTo at *
  have H2 : Hid (TwoAt C D w.heap.size 0 x5 va vs vb vt ag00 sk00 ag00 sk00 ∧ Below w.heap.size w x5) := by
    obtain ⟨a1, a2, a3⟩ := unhide HA
    obtain ⟨b1, b2, b3⟩ := unhide HB
    obtain ⟨s1, s2, s3⟩ := unhide HS
    obtain ⟨t1, t2, t3⟩ := unhide HT
    obtain ⟨h1, h2⟩ := two_start a1 a2 a3 b1 b2 b3 s1 s2 s3 t1 t2 t3
    exact ⟨h1.below (unhide HK), h2.trans ((unhide HK).mono h2.size)⟩
  clear HA HB HS HT HK
  go_wp2
  go_loopw [10] (fun i wr => ∃ j : Nat, j ≤ m + 1 ∧ i = .int .i64 j ∧ TwoAt C D w.heap.size (2 * j) wr va vs vb vt (takeN turnS j) sk00 (takeN turnS j) sk00 ∧ Below w.heap.size w wr) (fun i _ => m + 1 - (intOf i).toNat)
  case atStart => exact ⟨0, by omega, rfl, (unhide H2).1, (unhide H2).2⟩
  case round =>
    obtain ⟨j, hj, rfl, hT, hB⟩ := hrel
    clear H2
    have HT := hide hT
    have HB := hide hB
    clear hT hB
    by_cases hlt : j < m + 1
    · have hji : (j : Int) < (m : Int) + 1 := by omega
      have hj0 : (0 : Int) ≤ (j : Int) := by omega
      have e3 : ((turnS j : Nat) : Int) = (j : Int) % 3 := by unfold turnS; omega
      obtain ⟨tk1, tk2⟩ := take_turn (i := j) (by omega)
      rw [e3] at tk1 tk2
      have HDG := fun y => hide (digits_any j y (by omega))
      obtain ⟨db, hdb⟩ : ∃ db, db = digB j := ⟨_, rfl⟩
      rw [← hdb] at HDG tk1 tk2
      obtain ⟨A1, hA1⟩ : ∃ A1, A1 = takeN turnS (j + 1) := ⟨_, rfl⟩
      rw [← hA1] at tk2
      have HA1 := hide hA1
      have HTK := hide (And.intro tk1 tk2)
      clear hdb hA1 tk1 tk2 e3
      go_upto_region 11 with (go_at_call 22; refine (unhide (HPK _)).mono ?_; rintro r y ⟨rfl, rfl⟩)
      go_upto_region 12 with (first
        | (go_at_call 23; refine (unhide (HDG _)).mono ?_; rintro r y1 ⟨rfl, hy⟩; have HT1 := hide ((unhide HT).below hy); have HB1 := hide ((unhide HB).trans (hy.mono (unhide HB).size)); clear hy; have HSB := (unhide HT1).submit (by omega) ((j : Int) % 3) db; rw [(unhide HTK).1, (unhide HTK).2] at HSB; replace HSB := hide HSB; unfold ptrTo at HSB)
        | (go_at_call 21; refine (unhide HSB).mono ?_; rintro r y2 ⟨rfl, k1, k2⟩; have HT2 := hide k1.swap; have HB2 := hide ((unhide HB1).trans k2); clear k1 k2))
      clear HSB HT1 HB1 HT HB
      go_upto_region 13 with (first
        | (go_at_call 23; refine (unhide (HDG _)).mono ?_; rintro r y3 ⟨rfl, hy⟩; have HT3 := hide ((unhide HT2).below hy); have HB3 := hide ((unhide HB2).trans (hy.mono (unhide HB2).size)); clear hy; have HSB := (unhide HT3).submit (by omega) ((j : Int) % 3) db; rw [(unhide HTK).1, (unhide HTK).2] at HSB; replace HSB := hide HSB; unfold ptrTo at HSB)
        | (go_at_call 21; refine (unhide HSB).mono ?_; rintro r y4 ⟨rfl, k1, k2⟩; have HT4 := hide k1.swap; have HB4 := hide ((unhide HB3).trans k2); clear k1 k2))
      go_wp2
      go_roundw
      case rel => exact ⟨j + 1, by omega, by go_num, by rw [← unhide HA1]; exact unhide HT4, unhide HB4⟩
      case measure => simp [intOf]; omega
    · have hje : j = m + 1 := by omega
      subst hje
      have hji : ¬ ((m + 1 : Nat) : Int) < (m : Int) + 1 := by omega
      have HFI := hide (fun t ht => fine_at (noise_fine (m + 1) (by omega)) ht : ∀ t, t < 8 → (exchM (exN (takeN turnS (m + 1)) sk00 t).1 (exN (takeN turnS (m + 1)) sk00 t).2).2.2 = true)
      have hz : exN (takeN turnS (m + 1)) sk00 0 = (takeN turnS (m + 1), sk00) := rfl
      have hs := exN_succ (takeN turnS (m + 1)) sk00
      generalize exN (takeN turnS (m + 1)) sk00 = A4 at HFI hz hs
      have HZ := hide hz
      have HN4 := hide hs
      clear hz hs
      go_upto_region 15 with (go_at_call 22; refine (unhide (HPK _)).mono ?_; rintro r y ⟨rfl, rfl⟩)
      go_wp2
      go_loopw [13] (fun i wr => ∃ t : Nat, t ≤ 8 ∧ i = .int .i64 t ∧ TwoAt C D w.heap.size (26 + 2 * t) wr va vs vb vt (A4 t).1 (A4 t).2 (A4 t).1 (A4 t).2 ∧ Below w.heap.size w wr) (fun i _ => 8 - (intOf i).toNat)
      case atStart =>
        refine ⟨0, by omega, rfl, ?_, unhide HB⟩
        rw [unhide HZ]
        exact (unhide HT).mono (by omega)
      case round =>
        obtain ⟨t, ht8, rfl, hT, hB⟩ := hrel
        have HT5 := hide hT
        have HB5 := hide hB
        clear hT hB HT HB
        by_cases hlt8 : t < 8
        · have hji : (t : Int) < 8 := by omega
          go_wp2
          go_loopw [14] (fun i wr3 => ∃ j : Nat, j ≤ len ∧ i = .int .i64 j ∧ TwoAt C D w.heap.size (26 + 2 * t) wr3 va vs vb vt (A4 t).1 (A4 t).2 (A4 t).1 (A4 t).2 ∧ Below w.heap.size w wr3) (fun i _ => len - (intOf i).toNat)
          case atStart => exact ⟨0, by omega, rfl, unhide HT5, unhide HB5⟩
          case round =>
            obtain ⟨j, hj, rfl, hT, hB⟩ := hrel
            have HT6 := hide hT
            have HB6 := hide hB
            clear hT hB HT5 HB5
            by_cases hlt : j < len
            · obtain ⟨b0, off, rfl, hb0, hc⟩ := (unhide HI) (by omega)
              obtain ⟨s, hs, hcw⟩ := hc j hlt
              have cw : wr.cell? ⟨b0, off + j, none⟩ = some (.string s) := ((unhide HB6).cell (p := ⟨b0, off + j, none⟩) hb0).trans hcw
              obtain ⟨u1, y1, hconv, hat, hby⟩ := conv_bytes wr s hs
              have hdc := courier_Decode_any u1 s.data.toList y1 hat
              have HC := hide (And.intro hb0 hcw)
              have HSZ := hide hs
              have HBY := hide hby
              have HJL := hide (And.intro hlt hj)
              have hji : (j : Int) < (len : Int) := by omega
              have hj0 : (0 : Int) ≤ (j : Int) := by omega
              clear hc hcw hat hby hs hb0
              cases hr : Wire.reads s.data.toList with
              | true =>
                rw [hr, if_pos rfl] at hdc
                unfold frVal at hdc
                have HDC := hide hdc
                clear hdc hr
                go_upto_region 22 with (go_at_call 25; refine (unhide HDC).mono ?_; rintro r y2 ⟨rfl, hy⟩; have HY2 := hide hy; clear hy)
                go_wp2
                go_roundw
                case rel =>
                  refine ⟨j + 1, (unhide HJL).1, by go_num, (unhide HT6).below ?_, (unhide HB6).trans (Below.mono ?_ (unhide HB6).size)⟩
                  all_goals
                    have h1 := (unhide HBY).trans ((unhide HY2).mono (unhide HBY).size)
                    exact h1.alloc h1.size _
                case measure => have := (unhide HJL).1; simp [intOf]; omega
              | false =>
                rw [hr, if_neg (by decide)] at hdc
                unfold zeroFr at hdc
                have HDC := hide hdc
                have HR := hide hr
                clear hdc hr
                go_upto_region 22 with (go_at_call 25; refine (unhide HDC).mono ?_; rintro r y2 ⟨rfl, hy⟩; have HY2 := hide hy; clear hy)
                obtain ⟨LA, LS, la0, la1, ls0, ls1, himA, himS⟩ := (unhide HT6).imgs HNC
                have HIA := hide himA
                have HIS := hide himS
                have HLA := hide (And.intro la0 la1)
                have HLS := hide (And.intro ls0 ls1)
                obtain ⟨SA, hSA⟩ : ∃ SA : ByteArray, SA = ⟨LA.toArray⟩ := ⟨_, rfl⟩
                obtain ⟨SS, hSS⟩ : ∃ SS : ByteArray, SS = ⟨LS.toArray⟩ := ⟨_, rfl⟩
                obtain ⟨S, hS⟩ : ∃ S : ByteArray, S = SA ++ SS := ⟨_, rfl⟩
                have hza : SA.size ≤ 10000 := by rw [hSA]; simpa [ByteArray.size] using la1
                have hzs : SS.size ≤ 10000 := by rw [hSS]; simpa [ByteArray.size] using ls1
                have hcat : ¬ 9223372036854775807 < SA.size + SS.size := by omega
                have hSeq : (S.toList == S.toList) = true := by simp
                have HSA := hide hSA.symm
                have HSS := hide hSS.symm
                have HSQ := hide hS.symm
                clear himA himS la0 la1 ls0 ls1 hSA hSS hS
                go_upto_region 23 with fail
                refine wp_world (fun x => Below wr.heap.size wr x) ?_ ?_
                · have h1 := (unhide HBY).trans ((unhide HY2).mono (unhide HBY).size)
                  exact h1.alloc h1.size _
                intro q1 hq1
                have HQ1 := hide hq1
                clear hq1 HBY HY2 hconv cw HDC
                refine wp_region_frame (by kernel_rfl)
                  [fun v _ => v = .pointer (some ⟨va, 0, none⟩), fun v y => Owns q1.heap.size y v LA, fun v _ => v = .string SA, fun v _ => v = .pointer (some ⟨vs, 0, none⟩), fun v y => Owns q1.heap.size y v LS, fun v _ => v = .string SS, fun v _ => v = .string S, fun v _ => v = .string S]
                  [[(5, none)], [(99, some 0)], [(100, some 1)], [(7, none)], [(102, some 3)], [(103, some 4)], [(101, some 2), (104, some 5)], [(105, some 6)]] [some 99, some 100, some 101, some 102, some 103, some 104, some 105, some 17] [false, false, false, false, false, false, false, false, false, false, false, false, false, false, false, false, false, true, false, false, false, false, false, false, false, false, false, false, false, false, false, false, false, false, false, false, false, false, false, false, false, false, false, false, false, false, false, false, false, false, false, false, false, false, false, false, false, false, false, false, false, false, false, false, false, false, false, false, false, false, false, false, false, false, false, false, false, false, false, false, false, false, false, false, false, false, false, false, false, false, false, false, false, false, false, false, false, false, false, true, true, true, true, true, true, true, false, false, false, false, false, false, false, false, false, false, false, false, false, false, false, false, false, false, false, false, false, false, false, false, false, false, false, false, false, false, false, false, false, false, false, false, false, false, false, false, false, false, false, false, false, false, false, false, false, false, false, false, false, false, false, false, false, false, false, false, false, false, false, false, false, false, false, false, false, false, false, false, false, false, false, false, false, false]
                  (by kernel_rfl) (by kernel_rfl) (by kernel_rfl) (by kernel_rfl) ?_ ?_ ?_
                · repeat' (first | exact stable_eq _ | exact stable_owns _ _ | exact trivial | apply And.intro)
                · refine ⟨?_, ?_, ?_, ?_, ?_, ?_, ?_, ?_, trivial⟩
                  all_goals
                    intro a' z hbz hf
                    have HZA := hide ((unhide HIA) z ((unhide HQ1).trans (hbz.mono (unhide HQ1).size)))
                    have HZS := hide ((unhide HIS) z ((unhide HQ1).trans (hbz.mono (unhide HQ1).size)))
                    have hzz := hbz.size
                    unfold ptrTo at HZA HZS
                    clear hbz
                    simp only [PlanFacts, List.getD_cons_zero, List.getD_cons_succ, Array.getD_eq_getD_getElem?] at hf
                    try simp at hf
                  · go_simp
                    first | exact Below.refl _ _ | exact ⟨_, rfl, Below.refl _ _, rfl⟩
                  · go_simp
                    refine (unhide HZA).mono ?_
                    rintro e x' ⟨v', rfl, ho, hb⟩
                    exact ⟨_, rfl, hb, ho.mono hzz⟩
                  · have hcv := conv_owns hf (unhide HLA).1
                    rw [unhide HSA] at hcv
                    go_simp
                    first | exact Below.refl _ _ | exact ⟨rfl, Below.refl _ _⟩ | exact ⟨_, rfl, Below.refl _ _, rfl⟩
                  · go_simp
                    first | exact Below.refl _ _ | exact ⟨_, rfl, Below.refl _ _, rfl⟩
                  · go_simp
                    refine (unhide HZS).mono ?_
                    rintro e x' ⟨v', rfl, ho, hb⟩
                    exact ⟨_, rfl, hb, ho.mono hzz⟩
                  · have hcv := conv_owns hf (unhide HLS).1
                    rw [unhide HSS] at hcv
                    go_simp
                    first | exact Below.refl _ _ | exact ⟨rfl, Below.refl _ _⟩ | exact ⟨_, rfl, Below.refl _ _, rfl⟩
                  · go_simp
                    first | exact Below.refl _ _ | exact ⟨by rw [unhide HSQ], Below.refl _ _⟩ | exact ⟨_, rfl, Below.refl _ _, by rw [unhide HSQ]⟩
                  · go_simp
                    first | exact Below.refl _ _ | exact ⟨_, rfl, Below.refl _ _, rfl⟩
                intro f q2 hbz hwd
                simp only [AllWords] at hwd
                have h7 := hwd.2.2.2.2.2.2.2.1
                clear hwd
                simp only [mergeT, h7]
                generalize f 99 = x99
                generalize f 100 = x100
                generalize f 101 = x101
                generalize f 102 = x102
                generalize f 103 = x103
                generalize f 104 = x104
                generalize f 105 = x105
                have HQ2 := hide ((unhide HQ1).trans (hbz.mono (unhide HQ1).size))
                clear hbz
                have cw2 : q2.cell? ⟨b0, off + j, none⟩ = some (.string s) := ((unhide HQ2).cell (p := ⟨b0, off + j, none⟩) (Nat.lt_of_lt_of_le (unhide HC).1 (unhide HB6).size)).trans (((unhide HB6).cell (p := ⟨b0, off + j, none⟩) (unhide HC).1).trans (unhide HC).2)
                obtain ⟨u2, y3, hconv, hat, hby⟩ := conv_bytes q2 s (unhide HSZ)
                have HQ3 := hide ((unhide HQ2).trans (hby.mono (unhide HQ2).size))
                have HDA := hide (((unhide HT6).below (unhide HQ3)).deafA HNC u2 s.data.toList hat (unhide HR))
                clear hat hby
                unfold ptrTo at HDA
                go_upto_region 25 with (go_at_call 28; refine (unhide HDA).mono ?_; rintro r q3 ⟨rfl, hy⟩; have HQ4 := hide ((unhide HQ3).trans (hy.mono (unhide HQ3).size)); clear hy)
                clear hconv cw2 HDA HQ2 HQ3
                have cw3 : q3.cell? ⟨b0, off + j, none⟩ = some (.string s) := ((unhide HQ4).cell (p := ⟨b0, off + j, none⟩) (Nat.lt_of_lt_of_le (unhide HC).1 (unhide HB6).size)).trans (((unhide HB6).cell (p := ⟨b0, off + j, none⟩) (unhide HC).1).trans (unhide HC).2)
                obtain ⟨u3, y4, hconv, hat, hby⟩ := conv_bytes q3 s (unhide HSZ)
                have HQ5 := hide ((unhide HQ4).trans (hby.mono (unhide HQ4).size))
                have HDA := hide (((unhide HT6).below (unhide HQ5)).deafS HNC u3 s.data.toList hat (unhide HR))
                clear hat hby
                unfold ptrTo at HDA
                go_upto_region 26 with (go_at_call 27; refine (unhide HDA).mono ?_; rintro r q4 ⟨rfl, hy⟩; have HQ6 := hide ((unhide HQ5).trans (hy.mono (unhide HQ5).size)); clear hy)
                clear hconv cw3 HDA HQ4 HQ5
                have HQ4 := HQ6
                clear HQ6
                refine wp_region_frame (by kernel_rfl)
                  [fun v _ => v = .pointer (some ⟨va, 0, none⟩), fun v y => Owns q4.heap.size y v LA, fun v _ => v = .string SA, fun v _ => v = .pointer (some ⟨vs, 0, none⟩), fun v y => Owns q4.heap.size y v LS, fun v _ => v = .string SS, fun v _ => v = .string S, fun v _ => v = .string S]
                  [[(5, none)], [(123, some 0)], [(124, some 1)], [(7, none)], [(126, some 3)], [(127, some 4)], [(125, some 2), (128, some 5)], [(129, some 6)]] [some 123, some 124, some 125, some 126, some 127, some 128, some 129, some 21] [false, false, false, false, false, false, false, false, false, false, false, false, false, false, false, false, false, false, false, false, false, true, false, false, false, false, false, false, false, false, false, false, false, false, false, false, false, false, false, false, false, false, false, false, false, false, false, false, false, false, false, false, false, false, false, false, false, false, false, false, false, false, false, false, false, false, false, false, false, false, false, false, false, false, false, false, false, false, false, false, false, false, false, false, false, false, false, false, false, false, false, false, false, false, false, false, false, false, false, false, false, false, false, false, false, false, false, false, false, false, false, false, false, false, false, false, false, false, false, false, false, false, false, true, true, true, true, true, true, true, false, false, false, false, false, false, false, false, false, false, false, false, false, false, false, false, false, false, false, false, false, false, false, false, false, false, false, false, false, false, false, false, false, false, false, false, false, false, false, false, false, false, false, false, false, false, false, false, false, false, false, false, false, false]
                  (by kernel_rfl) (by kernel_rfl) (by kernel_rfl) (by kernel_rfl) ?_ ?_ ?_
                · repeat' (first | exact stable_eq _ | exact stable_owns _ _ | exact trivial | apply And.intro)
                · refine ⟨?_, ?_, ?_, ?_, ?_, ?_, ?_, ?_, trivial⟩
                  all_goals
                    intro a' z hbz hf
                    have HZA := hide ((unhide HIA) z ((unhide HQ4).trans (hbz.mono (unhide HQ4).size)))
                    have HZS := hide ((unhide HIS) z ((unhide HQ4).trans (hbz.mono (unhide HQ4).size)))
                    have hzz := hbz.size
                    unfold ptrTo at HZA HZS
                    clear hbz
                    simp only [PlanFacts, List.getD_cons_zero, List.getD_cons_succ, Array.getD_eq_getD_getElem?] at hf
                    try simp at hf
                  · go_simp
                    first | exact Below.refl _ _ | exact ⟨_, rfl, Below.refl _ _, rfl⟩
                  · go_simp
                    refine (unhide HZA).mono ?_
                    rintro e x' ⟨v', rfl, ho, hb⟩
                    exact ⟨_, rfl, hb, ho.mono hzz⟩
                  · have hcv := conv_owns hf (unhide HLA).1
                    rw [unhide HSA] at hcv
                    go_simp
                    first | exact Below.refl _ _ | exact ⟨rfl, Below.refl _ _⟩ | exact ⟨_, rfl, Below.refl _ _, rfl⟩
                  · go_simp
                    first | exact Below.refl _ _ | exact ⟨_, rfl, Below.refl _ _, rfl⟩
                  · go_simp
                    refine (unhide HZS).mono ?_
                    rintro e x' ⟨v', rfl, ho, hb⟩
                    exact ⟨_, rfl, hb, ho.mono hzz⟩
                  · have hcv := conv_owns hf (unhide HLS).1
                    rw [unhide HSS] at hcv
                    go_simp
                    first | exact Below.refl _ _ | exact ⟨rfl, Below.refl _ _⟩ | exact ⟨_, rfl, Below.refl _ _, rfl⟩
                  · go_simp
                    first | exact Below.refl _ _ | exact ⟨by rw [unhide HSQ], Below.refl _ _⟩ | exact ⟨_, rfl, Below.refl _ _, by rw [unhide HSQ]⟩
                  · go_simp
                    first | exact Below.refl _ _ | exact ⟨_, rfl, Below.refl _ _, rfl⟩
                intro f q5 hbz hwd
                simp only [AllWords] at hwd
                have h7 := hwd.2.2.2.2.2.2.2.1
                clear hwd
                simp only [mergeT, h7]
                generalize f 123 = x123
                generalize f 124 = x124
                generalize f 125 = x125
                generalize f 126 = x126
                generalize f 127 = x127
                generalize f 128 = x128
                generalize f 129 = x129
                have HQ5 := hide ((unhide HQ4).trans (hbz.mono (unhide HQ4).size))
                clear hbz
                clear HQ4
                go_wp2
                go_roundw
                case rel => exact ⟨j + 1, (unhide HJL).1, by go_num, (unhide HT6).below (unhide HQ5), (unhide HB6).trans ((unhide HQ5).mono (unhide HB6).size)⟩
                case measure => have := (unhide HJL).1; simp [intOf]; omega
            · have hje : j = len := by omega
              subst hje
              have hji : ¬ (j : Int) < (j : Int) := by omega
              have e4 := (unhide HN4) t
              have e1 : (exchM (A4 t).1 (A4 t).2).1 = (A4 (t + 1)).1 := by rw [e4]
              have e2 : (exchM (A4 t).1 (A4 t).2).2.1 = (A4 (t + 1)).2 := by rw [e4]
              have hok := (unhide HFI) t hlt8
              have HX0 := (unhide HT6).exch (by omega)
              rw [hok, e1, e2] at HX0
              have HX := hide HX0
              have HX2 := fun y (hy : TwoAt C D w.heap.size (26 + 2 * t + 1) y vb vt va vs (A4 t).1 (A4 t).2 (A4 (t + 1)).1 (A4 (t + 1)).2) => by
                have h := hy.exch (by omega)
                rw [hok, e1, e2] at h
                exact hide h
              generalize (((A4 t).1.tick.2.length : Nat) : Int) = nx at HX HX2
              clear HX0 hok e1 e2 e4
              unfold ptrTo at HX HX2
              go_upto_region 30 with (go_at_call 31; refine (unhide HX).mono ?_; rintro r y1 ⟨rfl, k1, k2⟩; have HT7 := hide k1.swap; have HB7 := hide ((unhide HB6).trans k2); clear k1 k2)
              have HX3 := hide (unhide (HX2 _ (unhide HT7)))
              clear HX HX2 HT6 HB6
              go_upto_region 31 with (go_at_call 31; refine (unhide HX3).mono ?_; rintro r y2 ⟨rfl, k1, k2⟩; have HT8 := hide k1.swap; have HB8 := hide ((unhide HB7).trans k2); clear k1 k2)
              clear HX3 HT7 HB7
              go_wp2
              go_loopw [26] (fun i wr4 => ∃ q : Nat, q ≤ 3 ∧ i = .int .i64 q ∧ TwoAt C D w.heap.size (26 + 2 * t + 1 + 1) wr4 va vs vb vt (A4 (t + 1)).1 (A4 (t + 1)).2 (A4 (t + 1)).1 (A4 (t + 1)).2 ∧ Below w.heap.size w wr4) (fun i _ => 3 - (intOf i).toNat)
              case atStart => exact ⟨0, by omega, rfl, unhide HT8, unhide HB8⟩
              case round =>
                obtain ⟨q, hq, rfl, hT, hB⟩ := hrel
                have HT9 := hide hT
                have HB9 := hide hB
                clear hT hB HT8 HB8
                by_cases hlq : q < 3
                · have hqi : (q : Int) < 3 := by omega
                  have HQ := hide hlq
                  have HL1 := hide ((unhide HT9).log (q : Int))
                  have HL2 := fun y (hy : TwoAt C D w.heap.size (26 + 2 * t + 1 + 1) y va vs vb vt (A4 (t + 1)).1 (A4 (t + 1)).2 (A4 (t + 1)).1 (A4 (t + 1)).2) => hide (hy.swap.log (q : Int))
                  have hll : (skLogs (A4 (t + 1)).2 (q : Int)).length ≤ 1000000000 := by
                    have hg := (unhide HT9).gk
                    unfold skLogs
                    split
                    · have := count_len (a := (A4 (t + 1)).2) (s := (q : Int).toNat) (by omega)
                      have := hg.room
                      omega
                    · simp
                  generalize skLogs (A4 (t + 1)).2 (q : Int) = lg at HL1 HL2 hll
                  have HLL := hide hll
                  clear hll hlq
                  unfold ptrTo at HL1 HL2
                  go_upto_region 37 with (go_at_call 32; refine (unhide HL1).mono ?_; rintro r z1 ⟨lv1, rfl, k1, k2, k3⟩; have HO1 := hide k1; have HT10 := hide k2; have HB10 := hide ((unhide HB9).trans (k3.mono (unhide HB9).size)); obtain ⟨ad1, cap1, rfl, _⟩ := listAt_own k1; rw [strs_length]; clear k1 k2 k3)
                  have HL3 := hide (unhide (HL2 _ (unhide HT10)))
                  clear HL1 HL2 HT9 HB9
                  go_upto_region 38 with (go_at_call 32; refine (unhide HL3).mono ?_; rintro r z2 ⟨lv2, rfl, k1, k2, k3⟩; have HO2 := hide (listAt_own k1); have HT11 := hide k2.swap; have HB11 := hide ((unhide HB10).trans (k3.mono (unhide HB10).size)); have HO1b := hide (listAt_own (ownsRow_keepB (unhide HO1) (fun g hg => k3.block g (World.ownsRow.lt (unhide HO1) g hg).2))); obtain ⟨ad2, cap2, rfl, _⟩ := listAt_own k1; clear k1 k2 k3)
                  rw [strs_length] at HO2 HO1b ⊢
                  have HSM := hide (keepSame_any z2 _ _ _ _ (unhide HO1b) (unhide HO2) (unhide HLL))
                  rw [show decide (lg = lg) = true by simp] at HSM
                  clear HO1 HO2 HO1b HL3 HT10 HB10
                  go_upto_region 39 with (go_at_call 33; refine (unhide HSM).mono ?_; rintro r z3 ⟨rfl, q3, rfl⟩; have HT12 := hide ((unhide HT11).below (below_drewN (Below.refl _ _) q3)); have HB12 := hide (below_drewN (unhide HB11) q3))
                  clear HSM HT11 HB11
                  go_wp2
                  go_roundw
                  case rel => exact ⟨q + 1, unhide HQ, by go_num, unhide HT12, unhide HB12⟩
                  case measure => have := unhide HQ; simp [intOf]; omega
                · have hqe : q = 3 := by omega
                  subst hqe
                  have hqi : ¬ ((3 : Nat) : Int) < 3 := by omega
                  go_wp2
                  go_roundw
                  case rel => exact ⟨t + 1, by omega, by go_num, unhide HT9, unhide HB9⟩
                  case measure => simp [intOf]; omega
        · have hte : t = 8 := by omega
          subst hte
          have hji : ¬ ((8 : Nat) : Int) < 8 := by omega
          go_wp2
          go_ret
          exact ⟨rfl, unhide HB5⟩
end Go.Proofs.YtamafdcnbcoegaaGreat
namespace Go.Proofs.YtamafdcnbcoegaaGreat
open Go.ChangeShapes Go.WideShapes Go.ChangeAt Go.RowKit

theorem weights_all {H : Type} {P : Program} {e : TypeId} : ∀ {l : List (DataW H)} {d : DataW H}, d ∈ l → ∀ n ∈ d.weights P e, n ∈ DataW.weightsAll P e l
  | d' :: r, d, hd, n, hn => by
    simp only [DataW.weightsAll, List.mem_append]
    rcases List.mem_cons.1 hd with rfl | h
    · exact Or.inl hn
    · exact Or.inr (weights_all h n hn)

end Go.Proofs.YtamafdcnbcoegaaGreat
namespace Go.Proofs.YtamafdcnbcoegaaGreat
open Go.ChangeShapes Go.WideShapes Go.ChangeAt Go.RowKit

end Go.Proofs.YtamafdcnbcoegaaGreat
namespace Go.Proofs.YtamafdcnbcoegaaGreat
open Go.ChangeShapes Go.WideShapes Go.ChangeAt Go.RowKit

theorem strBytes : Tryz.prog.bytesOf 9 = 16 := by kernel_rfl
set_option maxRecDepth 100000 in
/-- A list of texts that came in. -/
theorem open_strs {H : Type} {enc : TypeId × Value → H} {w : World} {base : Nat} {spare : Nat → Bool} {held : Bool} {v : Value} {d : DataW H} {p : List MemPlace}
    (h : DataW.Trod enc Tryz.prog w base spare held 45 v d p) (hv : ∃ a len cap, v = .slice a len cap) (hw : ∀ n ∈ d.weights Tryz.prog 45, n ≤ reachBytes) :
    ∃ ad len cap, v = .slice ad len cap ∧ len ≤ 140737488355328 ∧ StrsIn w ad len := by
  obtain ⟨a0, l0, c0, rfl⟩ := hv
  obtain ⟨fuel, hf⟩ := h
  have hcs : (Value.slice a0 l0 c0).cells.toList = [.slice a0 l0 c0] := rfl
  rw [hcs] at hf
  rcases Deep.open_slice Tryz.underlying45 hf with ⟨e, _⟩ | ⟨a, len, cap, m, n, D, Pl, e, _, hl, _, hm, hd, hi⟩
  · injection e with e
    injection e with e1 e2 e3
    subst e1 e2 e3
    exact ⟨none, 0, 0, rfl, by omega, fun h => absurd h (by omega)⟩
  · injection e with e
    injection e with e1 e2 e3
    subst e1 e2 e3
    injection hd with hd _
    subst hd
    have hlm : l0 ≤ m := by rw [hm]; split <;> omega
    have hsz : l0 * 16 ≤ reachBytes := by
      have := hw ((((List.range l0).map D).length + ((List.range (m - l0)).map fun j => D (l0 + j)).length) * Tryz.prog.bytesOf 9) (by simp [DataW.weights, Tryz.underlying45])
      rw [strBytes] at this
      simp at this
      omega
    refine ⟨some a, l0, c0, rfl, by unfold reachBytes at hsz; omega, fun h0 => ?_⟩
    rw [strCells] at hi
    obtain ⟨b0, off, sp⟩ := a
    have hsp : sp = none ∧ b0 < w.heap.size := by
      obtain ⟨cs', h1, h2⟩ := hi 0 (by omega)
      obtain ⟨_, hlen, hc⟩ := World.cells?_some h1
      have := hc 0 (by omega)
      rw [List.getElem?_eq_getElem (by omega)] at this
      simp only [Addr.add, Nat.zero_mul, if_true] at this
      unfold World.cell? at this
      simp only at this
      split at this
      · rename_i hb
        refine ⟨?_, lt_of_block hb⟩
        cases sp with
        | none => rfl
        | some _ => simp at this
      · cases this
    obtain ⟨rfl, hlt⟩ := hsp
    refine ⟨b0, off, rfl, hlt, fun i hil => ?_⟩
    obtain ⟨cs', h1, h2⟩ := hi i (by omega)
    obtain ⟨_, hlen, hc⟩ := World.cells?_some h1
    obtain ⟨s, e, x3, _⟩ := DataW.trod_string Tryz.underlying9 h2
    subst e
    refine ⟨s, ?_, ?_⟩
    · have := hw s.data.toList.length (by
        simp only [DataW.weights, Tryz.underlying45, List.mem_cons, List.mem_append]
        refine .inr (.inl (weights_all (List.mem_map.2 ⟨i, by simpa using hil, rfl⟩) _ ?_))
        rw [show D i = (DataW.lit (.string s.data.toList)) from (Prod.mk.inj x3).1]
        simp [DataW.weights])
      unfold reachBytes at this
      simp at this
      omega
    · have := hc 0 (by omega)
      rw [add_plain, add_plain] at this
      simpa using this

set_option maxRecDepth 100000 in
theorem noise_lifted {top : Nat} (C : AgentC top) (D : SinkC) (HNC : NoiseC C D) (ht : 1000 ≤ top) (os : Os) (started : os.Started) (H : Type) (enc : TypeId × Value → H) :
    ReturnsInHanded {} Tryz.checked os 8 .any (Rows.noiseSpec.pre6 enc Tryz.prog Tryz.f8 Rows.noiseRow.domain false) (Rows.noiseSpec.post enc Tryz.prog Tryz.f8 false true false false) := by
  refine returnsInHanded_of_change_sized (C := Tryz.checked) Tryz.own started (by kernel_rfl) Tryz.func8
    (ChangeSpec.witness6 (enc := enc) (C := Tryz.checked) false ⟨#[], #[.int .i64 0, .slice none 0 0], []⟩ 8 (by kernel_rfl) (by kernel_rfl) (by kernel_rfl) (by kernel_rfl)) ?_
  intro W base args ds gs before hval0 hW hcnd hsz0 hholds
  have hval : ∀ (j : Nat) t v, Tryz.f8.params[j]? = some t → args[j]? = some v → Value.okWide Tryz.prog W .any base t v := hval0
  have hsz : (DataW.weightsEach Tryz.prog (Tryz.f8.params.toList ++ Rows.noiseSpec.plain.varTypes Tryz.prog) (ds ++ gs)).all (· ≤ reachBytes) = true := hsz0
  have hW' := hW
  obtain ⟨p, q, hA0, hV, rfl, hfz, hnd⟩ := hW
  have hA : DataW.TrodAll enc Tryz.prog W 0 (fun _ => true) true Tryz.f8.params.toList args.toList ds p := hA0
  rw [Tryz.params8] at hA hval hsz
  obtain ⟨v0, vs0, d0, ds0, p0, q0, hargs, rfl, rfl, h0, r0⟩ := trodAll_cons hA
  obtain ⟨v1, vs1, d1, ds1, p1, q1, rfl, rfl, rfl, h1, r1⟩ := trodAll_cons r0
  obtain ⟨rfl, rfl, rfl⟩ := trodAll_nil r1
  obtain rfl : args = #[v0, v1] := by cases args; simp_all
  obtain ⟨rfl, rfl⟩ := trodVars_none hV
  have k0 := h0
  have k1 := h1
  have lt0 : ∀ x ∈ p0, x.block < W.heap.size := by obtain ⟨m, hm⟩ := k0; exact DataW.trod_lt m _ _ _ hm
  have lt1 : ∀ x ∈ p1, x.block < W.heap.size := by obtain ⟨m, hm⟩ := k1; exact DataW.trod_lt m _ _ _ hm
  obtain ⟨n, rfl, hn⟩ := open_int h0 (okWide_int Tryz.underlying3 (hval 0 3 v0 rfl rfl))
  obtain ⟨ad, len, cap, rfl, hlen, hops⟩ := open_strs h1 (okWide_slice Tryz.underlying45 (hval 1 45 v1 rfl rfl)) (fun n hn => by
    have := List.all_eq_true.1 hsz n (DataW.weights_mem_each (j := 1) rfl rfl n hn)
    simpa using this)
  clear hA0 hval0 hsz0
  refine (noise_any C D HNC ht n ad len cap W (by omega) hn hops).mono fun e W' ⟨he, bel⟩ => ?_
  subst he
  exact ⟨_, rfl, _, _, _, [], _, [], hW', trodAll_mk1 (shut_bool Tryz.underlying4 _), (trodAll_cons_mk (Below.trod Tryz.laidOut (by kernel_rfl) (of_decide_eq_true (by kernel_rfl)) k0 bel lt0) (trodAll_cons_mk (Below.trod Tryz.laidOut (by kernel_rfl) (of_decide_eq_true (by kernel_rfl)) k1 bel lt1) trodAll_mk0)), rfl, bel.frame _, fun h => by cases h⟩

/-- Bytes that are no frame change nothing, for a program's ends that keep their contracts. -/
theorem noise_holds {top : Nat} (C : AgentC top) (D : SinkC) (HNC : NoiseC C D) (ht : 1000 ≤ top) : Rows.NoiseSaid :=
  OpenClaim.holds_of_wide 8 Tryz.f8 rfl rfl rfl rfl rfl rfl rfl ⟨rfl, rfl, rfl, rfl, rfl⟩ rfl rfl rfl rfl rfl (by kernel_rfl) Tryz.func8 (by kernel_rfl)
    (of_decide_eq_true (by kernel_rfl)) (by unfold Func.isWrapper; rw [if_neg (by decide +kernel)]; exact ⟨rfl, rfl⟩)
    (fun os started H enc _ => noise_lifted C D HNC ht os started H enc)
end Go.Proofs.YtamafdcnbcoegaaGreat
