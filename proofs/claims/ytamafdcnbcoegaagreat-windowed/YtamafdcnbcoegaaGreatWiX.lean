/-
  What is asked for beyond the texts of Fu.
-/
import Derived.Below
import Derived.WalkKit
import Derived.WalkSpells
import Derived.WalkLawsBesides
import Derived.Deep.QuietTactic
import Derived.BigQuiet
import Derived.Lib.EndianBits
import Derived.Lib.AppendStr
import Derived.Deep.Cut
import Derived.Deep.CutRange
import Derived.Deep.CutBlock
import Derived.Deep.RegionHeld3
import Derived.Laws.ResultCell
import Derived.Laws.CopyOwn
import Derived.Laws.IdiomStrings
import Derived.Orders
import Derived.DeepKeys
import Derived.Laws.StructEq
import Derived.Laws.OwnMore
import Derived.Maps.OwnIn
import Derived.Shelf.Small.Wraps
import Derived.Shelf.LaysM
import Derived.Shelf.Strconv.Clone
import Derived.Shelf.Slices.Reverse
import Derived.Ground.Names2Prog
import Derived.Shelf.Slices.Clone
import Derived.Shelf.Slices.SearchI
import Derived.Shelf.Slices.Delete
import Derived.Shelf.Slices.Cells
import Derived.Shelf.Slices.Empties
import Derived.Shelf.Spec.SlicesInsertGrow
import Derived.Laws.Cover3
import Derived.Deep.RegionLaw
import Derived.RangeFuncNested
import Derived.RangeFuncBound
import Derived.RangeFuncCalls
import Derived.RangeFuncLeaves
import Derived.Shelf.Abstract
import Derived.Shelf.RegionOpen
import Derived.OwnWalkIn
import Derived.TacticsInMore
import Derived.LoopNIn
import Derived.LoopIn
import Derived.Maps.AppendAt
import Derived.OrdersIn
import Derived.Sort.CutIn
import Derived.ProofKit
import Derived.SizedLaws
import Derived.OpenShut
import Derived.ShutString
import Derived.ChangeOld
import Derived.Lib.SmallJoins
import Derived.Deep.Slices
import Derived.Test.YtamafdcnbcoegaaGreatFu14
namespace Go.Proofs.YtamafdcnbcoegaaGreat
namespace Wire

end Wire
end Go.Proofs.YtamafdcnbcoegaaGreat
namespace Go.Proofs.YtamafdcnbcoegaaGreat
namespace Wire

end Wire
end Go.Proofs.YtamafdcnbcoegaaGreat
namespace Go.Proofs.YtamafdcnbcoegaaGreat
namespace Mod

end Mod
end Go.Proofs.YtamafdcnbcoegaaGreat
namespace Go.Proofs.YtamafdcnbcoegaaGreat
open Go.RowKit

end Go.Proofs.YtamafdcnbcoegaaGreat
namespace Go.Proofs.YtamafdcnbcoegaaGreat
open Go.RowKit

end Go.Proofs.YtamafdcnbcoegaaGreat
namespace Go.Proofs.YtamafdcnbcoegaaGreat
open Go.RowKit

end Go.Proofs.YtamafdcnbcoegaaGreat
namespace Go.Proofs.YtamafdcnbcoegaaGreat
open Go.RowKit

open Wire (whole)
end Go.Proofs.YtamafdcnbcoegaaGreat
namespace Go.Proofs.YtamafdcnbcoegaaGreat
open Go.RowKit

end Go.Proofs.YtamafdcnbcoegaaGreat
namespace Go.Proofs.YtamafdcnbcoegaaGreat
open Go.RowKit
open Wire (whole)

end Go.Proofs.YtamafdcnbcoegaaGreat
namespace Go.Proofs.YtamafdcnbcoegaaGreat
open Go.RowKit
open Wire (whole)

theorem courier_Decode_gen (v : Value) (a b c d e : Int) (s : ByteArray) (w : World)
    (H : ∀ o, Hid (Calls Tryz.prog 54 #[v] (w.alloc o) fun r w' => r = .returned (.tuple #[.agg #[.int .i64 a, .int .i64 b, .int .i64 c, .int .i64 d, .string s], .int .i64 e]) ∧ Below (w.alloc o).heap.size (w.alloc o) w')) :
    Calls Tryz.prog 25 #[v] w fun r w' => r = .returned (.tuple #[.agg #[.int .i64 a, .int .i64 b, .int .i64 c, .int .i64 d, .string s], .int .i64 e]) ∧ Below w.heap.size w w' := by
  go_enter Tryz.func25, Tryz.ntmps25
  go_upto_region 1 with fail
  go_wp2_with (go_at_call 54; refine (unhide (H _)).mono ?_; rintro r w1 ⟨rfl, hb⟩; obtain ⟨z0, z1, z2, z3, z4⟩ := (frBox_new w 0 0 0 0 ⟨#[]⟩ 41).below hb (by simp); have fz : ∀ i, w1.frozen? ⟨w.heap.size, i, none⟩ = false := fun i => (hb.frozen (p := ⟨w.heap.size, i, none⟩) (by simp)).trans (by simp); have f0 := fz 0; have f1 := fz 1; have f2 := fz 2; have f3 := fz 3; have f4 := fz 4; have B1 := ((Below.refl w.heap.size w).alloc (Nat.le_refl _) (.cells #[.int .i64 0, .int .i64 0, .int .i64 0, .int .i64 0, .string ⟨#[]⟩] 41)).trans (hb.mono (by simp)); clear fz hb)
  refine bodyPost_ret (v := .tuple #[.agg #[.int .i64 a, .int .i64 b, .int .i64 c, .int .i64 d, .string s], .int .i64 e]) (by simp [results, Tryz.results25, go_sem, *]) rfl ⟨rfl, ?_⟩
  exact below_five B1 _ _ _ _ _

/-- P3: Decode, by courier's own door. -/
theorem courier_Decode_any (v : Value) (l : List UInt8) (w : World) (h : BytesAt w v l) :
    Calls Tryz.prog 25 #[v] w fun r w' => r = .returned (if Wire.reads l = true then .tuple #[frVal l, .int .i64 0] else .tuple #[zeroFr, .int .i64 1]) ∧ Below w.heap.size w w' := by
  have hA := fun o => hide (decode_any v l (w.alloc o) (h.below ((Below.refl _ _).alloc (Nat.le_refl _) _)))
  clear h
  cases hr : Wire.reads l
  all_goals
    simp only [hr, if_true, if_false, Bool.false_eq_true] at hA ⊢
    exact courier_Decode_gen v _ _ _ _ _ _ w hA
end Go.Proofs.YtamafdcnbcoegaaGreat
namespace Go.Proofs.YtamafdcnbcoegaaGreat
open Go.RowKit

end Go.Proofs.YtamafdcnbcoegaaGreat

namespace Go.Proofs.YtamafdcnbcoegaaGreat
open Go.RowKit

section
variable {P : Program} {ops : Array Oper} {Q : Exit → Act → World → Prop}

end
end Go.Proofs.YtamafdcnbcoegaaGreat
namespace Go.Proofs.YtamafdcnbcoegaaGreat
open Go.RowKit

end Go.Proofs.YtamafdcnbcoegaaGreat
namespace Go.Proofs.YtamafdcnbcoegaaGreat
open Go.RowKit

end Go.Proofs.YtamafdcnbcoegaaGreat
namespace Go.Proofs.YtamafdcnbcoegaaGreat
open Go.RowKit

end Go.Proofs.YtamafdcnbcoegaaGreat
namespace Go.Proofs.YtamafdcnbcoegaaGreat
open Go.RowKit

end Go.Proofs.YtamafdcnbcoegaaGreat
namespace Go.Proofs.YtamafdcnbcoegaaGreat
open Go.RowKit

end Go.Proofs.YtamafdcnbcoegaaGreat
namespace Go.Proofs.YtamafdcnbcoegaaGreat
open Go.RowKit

end Go.Proofs.YtamafdcnbcoegaaGreat
namespace Go.Proofs.YtamafdcnbcoegaaGreat
open Go.RowKit

section
variable {w X : World} {p q : Nat} {cp cq : Array Value} {tv bv' fv tv2 bv2 fv2 : Value} {ts fs ts2 fs2 : List Value} {l l2 : List UInt8}

end
end Go.Proofs.YtamafdcnbcoegaaGreat
namespace Go.Proofs.YtamafdcnbcoegaaGreat
open Go.RowKit

end Go.Proofs.YtamafdcnbcoegaaGreat
namespace Go.Proofs.YtamafdcnbcoegaaGreat
open Go.RowKit

end Go.Proofs.YtamafdcnbcoegaaGreat
namespace Go.Proofs.YtamafdcnbcoegaaGreat
open Go.RowKit

end Go.Proofs.YtamafdcnbcoegaaGreat
namespace Go.Proofs.YtamafdcnbcoegaaGreat
open Go.RowKit

end Go.Proofs.YtamafdcnbcoegaaGreat
namespace Go.Proofs.YtamafdcnbcoegaaGreat
open Go.RowKit

end Go.Proofs.YtamafdcnbcoegaaGreat
namespace Go.Proofs.YtamafdcnbcoegaaGreat
open Go.RowKit

end Go.Proofs.YtamafdcnbcoegaaGreat

namespace Go.Proofs.YtamafdcnbcoegaaGreat
open Go.RowKit

section
variable {P : Program} {ops : Array Oper} {Q : Exit → Act → World → Prop}

end
end Go.Proofs.YtamafdcnbcoegaaGreat
namespace Go.Proofs.YtamafdcnbcoegaaGreat
open Go.RowKit

end Go.Proofs.YtamafdcnbcoegaaGreat
namespace Go.Proofs.YtamafdcnbcoegaaGreat
open Go.RowKit

end Go.Proofs.YtamafdcnbcoegaaGreat
namespace Go.Proofs.YtamafdcnbcoegaaGreat
namespace Mod

end Mod
end Go.Proofs.YtamafdcnbcoegaaGreat
namespace Go.Proofs.YtamafdcnbcoegaaGreat
open Go.RowKit

end Go.Proofs.YtamafdcnbcoegaaGreat
namespace Go.Proofs.YtamafdcnbcoegaaGreat
open Go.RowKit

end Go.Proofs.YtamafdcnbcoegaaGreat
namespace Go.Proofs.YtamafdcnbcoegaaGreat
open Go.RowKit

end Go.Proofs.YtamafdcnbcoegaaGreat
namespace Go.Proofs.YtamafdcnbcoegaaGreat
namespace Mod

end Mod
end Go.Proofs.YtamafdcnbcoegaaGreat
namespace Go.Proofs.YtamafdcnbcoegaaGreat
open Go.RowKit

end Go.Proofs.YtamafdcnbcoegaaGreat
namespace Go.Proofs.YtamafdcnbcoegaaGreat
open Go.RowKit

end Go.Proofs.YtamafdcnbcoegaaGreat
namespace Go.Proofs.YtamafdcnbcoegaaGreat
open Go.RowKit

end Go.Proofs.YtamafdcnbcoegaaGreat
namespace Go.Proofs.YtamafdcnbcoegaaGreat
open Go.RowKit

end Go.Proofs.YtamafdcnbcoegaaGreat
namespace Go.Proofs.YtamafdcnbcoegaaGreat
open Go.RowKit
open Go.MapKept

end Go.Proofs.YtamafdcnbcoegaaGreat
namespace Go.Proofs
open Go.Shelf
end Go.Proofs

namespace Go.Proofs.YtamafdcnbcoegaaGreat
open Go.RowKit

end Go.Proofs.YtamafdcnbcoegaaGreat
namespace Go.Proofs.YtamafdcnbcoegaaGreat
open Go.RowKit

end Go.Proofs.YtamafdcnbcoegaaGreat
namespace Go.Proofs.YtamafdcnbcoegaaGreat
open Go.RowKit

end Go.Proofs.YtamafdcnbcoegaaGreat
namespace Go.Proofs.YtamafdcnbcoegaaGreat
open Go.RowKit

end Go.Proofs.YtamafdcnbcoegaaGreat
namespace Go.Proofs.YtamafdcnbcoegaaGreat
open Go.RowKit

end Go.Proofs.YtamafdcnbcoegaaGreat
namespace Go.Proofs.YtamafdcnbcoegaaGreat
open Go.RowKit

end Go.Proofs.YtamafdcnbcoegaaGreat
namespace Go.Proofs.YtamafdcnbcoegaaGreat
open Go.RowKit




end Go.Proofs.YtamafdcnbcoegaaGreat
namespace Go.Proofs.YtamafdcnbcoegaaGreat
open Go.RowKit


end Go.Proofs.YtamafdcnbcoegaaGreat
namespace Go.Proofs.YtamafdcnbcoegaaGreat
open Go.RowKit

end Go.Proofs.YtamafdcnbcoegaaGreat

namespace Go.Proofs.YtamafdcnbcoegaaGreat
open Go.RowKit

end Go.Proofs.YtamafdcnbcoegaaGreat
namespace Go.Proofs.YtamafdcnbcoegaaGreat
open Go.RowKit

end Go.Proofs.YtamafdcnbcoegaaGreat
namespace Go.Proofs.YtamafdcnbcoegaaGreat
open Go.RowKit

end Go.Proofs.YtamafdcnbcoegaaGreat
namespace Go.Proofs.YtamafdcnbcoegaaGreat
open Go.RowKit

end Go.Proofs.YtamafdcnbcoegaaGreat
namespace Go.Proofs.YtamafdcnbcoegaaGreat
open Go.RowKit

namespace Mod
end Mod
end Go.Proofs.YtamafdcnbcoegaaGreat
namespace Go.Proofs.YtamafdcnbcoegaaGreat
open Go.RowKit

end Go.Proofs.YtamafdcnbcoegaaGreat
namespace Go.Proofs.YtamafdcnbcoegaaGreat
open Go.RowKit

end Go.Proofs.YtamafdcnbcoegaaGreat
namespace Go.Proofs.YtamafdcnbcoegaaGreat
open Go.RowKit

end Go.Proofs.YtamafdcnbcoegaaGreat
namespace Go.Proofs.YtamafdcnbcoegaaGreat
open Go.RowKit

end Go.Proofs.YtamafdcnbcoegaaGreat
namespace Go.Proofs.YtamafdcnbcoegaaGreat
open Go.RowKit

end Go.Proofs.YtamafdcnbcoegaaGreat
namespace Go.Proofs.YtamafdcnbcoegaaGreat
open Go.RowKit

end Go.Proofs.YtamafdcnbcoegaaGreat
namespace Go.Proofs.YtamafdcnbcoegaaGreat
open Go.RowKit

end Go.Proofs.YtamafdcnbcoegaaGreat
namespace Go.Proofs.YtamafdcnbcoegaaGreat
open Go.RowKit

end Go.Proofs.YtamafdcnbcoegaaGreat
namespace Go.Proofs.YtamafdcnbcoegaaGreat
open Go.RowKit

end Go.Proofs.YtamafdcnbcoegaaGreat
namespace Go.Proofs.YtamafdcnbcoegaaGreat
open Go.RowKit

end Go.Proofs.YtamafdcnbcoegaaGreat
namespace Go.Proofs.YtamafdcnbcoegaaGreat
open Go.RowKit

end Go.Proofs.YtamafdcnbcoegaaGreat
namespace Go.Proofs.YtamafdcnbcoegaaGreat
open Go.RowKit

end Go.Proofs.YtamafdcnbcoegaaGreat
namespace Go.Proofs.YtamafdcnbcoegaaGreat
open Go.RowKit

end Go.Proofs.YtamafdcnbcoegaaGreat
namespace Go.Proofs.YtamafdcnbcoegaaGreat
open Go.RowKit

end Go.Proofs.YtamafdcnbcoegaaGreat
namespace Go.Proofs.YtamafdcnbcoegaaGreat
open Go.RowKit

end Go.Proofs.YtamafdcnbcoegaaGreat
namespace Go.Proofs.YtamafdcnbcoegaaGreat
open Go.RowKit

end Go.Proofs.YtamafdcnbcoegaaGreat
namespace Go.Proofs.YtamafdcnbcoegaaGreat
open Go.RowKit

end Go.Proofs.YtamafdcnbcoegaaGreat

namespace Go.Proofs.YtamafdcnbcoegaaGreat
open Go.RowKit

end Go.Proofs.YtamafdcnbcoegaaGreat
namespace Go.Proofs.YtamafdcnbcoegaaGreat
open Go.RowKit

section
variable {top N : Nat} {C : AgentC top} {w x : World} {q sv rp : Nat} {a : Mod.Ag} {r : RRest} {kv hk : Nat → Value} {U : Nat → Prop} {left : Int} {E : Nat → Prop}
end
end Go.Proofs.YtamafdcnbcoegaaGreat
namespace Go.Proofs.YtamafdcnbcoegaaGreat
open Go.RowKit

end Go.Proofs.YtamafdcnbcoegaaGreat
namespace Go.Proofs.YtamafdcnbcoegaaGreat
open Go.RowKit

end Go.Proofs.YtamafdcnbcoegaaGreat
namespace Go.Proofs.YtamafdcnbcoegaaGreat
open Go.RowKit
attribute [local go_sem] Oper.semAt_some

end Go.Proofs.YtamafdcnbcoegaaGreat
namespace Go.Proofs.YtamafdcnbcoegaaGreat
open Go.RowKit

end Go.Proofs.YtamafdcnbcoegaaGreat
namespace Go.Proofs.YtamafdcnbcoegaaGreat
open Go.RowKit

end Go.Proofs.YtamafdcnbcoegaaGreat
namespace Go.Proofs.YtamafdcnbcoegaaGreat
open Go.RowKit


end Go.Proofs.YtamafdcnbcoegaaGreat
namespace Go.Proofs.YtamafdcnbcoegaaGreat
open Go.RowKit

end Go.Proofs.YtamafdcnbcoegaaGreat
namespace Go.Proofs.YtamafdcnbcoegaaGreat
open Go.RowKit


end Go.Proofs.YtamafdcnbcoegaaGreat
namespace Go.Proofs.YtamafdcnbcoegaaGreat
open Go.RowKit



end Go.Proofs.YtamafdcnbcoegaaGreat
namespace Go.Proofs.YtamafdcnbcoegaaGreat
open Go.RowKit

end Go.Proofs.YtamafdcnbcoegaaGreat
namespace Go.Proofs.YtamafdcnbcoegaaGreat
open Go.RowKit


end Go.Proofs.YtamafdcnbcoegaaGreat
namespace Go.Proofs.YtamafdcnbcoegaaGreat
open Go.RowKit

end Go.Proofs.YtamafdcnbcoegaaGreat

namespace Go.Proofs.YtamafdcnbcoegaaGreat
open Go.RowKit

end Go.Proofs.YtamafdcnbcoegaaGreat
namespace Go.Proofs.YtamafdcnbcoegaaGreat
open Go.RowKit

section
variable {w x : World} {p e s : Nat} {logs : Nat → List ByteArray} {sh : Nat → List (Nat × Value)} {arr : Array Value} {lv nv mv : Nat → Value} {rv : Value}
end

end Go.Proofs.YtamafdcnbcoegaaGreat
namespace Go.Proofs.YtamafdcnbcoegaaGreat
open Go.RowKit

section
variable {w x y : World} {p e : Nat} {logs : Nat → List ByteArray} {sh : Nat → List (Nat × Value)} {st : Mod.Stv} {c : Sv}
end
end Go.Proofs.YtamafdcnbcoegaaGreat
namespace Go.Proofs.YtamafdcnbcoegaaGreat
open Go.RowKit

end Go.Proofs.YtamafdcnbcoegaaGreat
namespace Go.Proofs.YtamafdcnbcoegaaGreat
open Go.RowKit

end Go.Proofs.YtamafdcnbcoegaaGreat
namespace Go.Proofs.YtamafdcnbcoegaaGreat

end Go.Proofs.YtamafdcnbcoegaaGreat
namespace Go.Proofs.YtamafdcnbcoegaaGreat
open Go.RowKit
section
variable {w x y : World} {p e e2 : Nat} {logs logs2 : Nat → List ByteArray} {sh sh2 : Nat → List (Nat × Value)} {st st2 : Mod.Stv} {c : Sv}
end
end Go.Proofs.YtamafdcnbcoegaaGreat
namespace Go.Proofs.YtamafdcnbcoegaaGreat
open Go.RowKit

section
variable {w x y : World} {p : Nat} {g g2 : Nat → Nat} {tk tk2 : Nat} {wel wel2 fen fen2 : Bool} {free free2 : List Nat} {sh sh2 : Nat → List (Nat × Value)} {arr : Array Value} {s : Nat} {nv mv : Nat → Value} {fv rv : Value} {st st2 : Mod.Stv} {c : Av}
end
end Go.Proofs.YtamafdcnbcoegaaGreat
namespace Go.Proofs.YtamafdcnbcoegaaGreat
open Go.RowKit

end Go.Proofs.YtamafdcnbcoegaaGreat

namespace Go.Proofs.YtamafdcnbcoegaaGreat
open Go.RowKit
section
variable {a : Mod.Ag} {op : Nat} {g : Nat → Nat} {free : List Nat} {sh : Nat → List (Nat × Value)} {pl : Nat → List Nat}

end
end Go.Proofs.YtamafdcnbcoegaaGreat
namespace Go.Proofs.YtamafdcnbcoegaaGreat
open Go.RowKit

section
variable {w : World} {p : Nat} {g : Nat → Nat} {tk : Nat} {wel fen : Bool} {free : List Nat} {sh : Nat → List (Nat × Value)} {st : Mod.Stv} {c : Av} {a : Mod.Ag} {op : Nat} {go : Nat → Nat} {pl : Nat → List Nat}
end
end Go.Proofs.YtamafdcnbcoegaaGreat
namespace Go.Proofs.YtamafdcnbcoegaaGreat
open Go.RowKit

section
variable {w x y : World} {p : Nat} {g : Nat → Nat} {tk : Nat} {wel fen : Bool} {free : List Nat} {sh : Nat → List (Nat × Value)} {st st2 : Mod.Stv} {c : Av} {a : Mod.Ag} {op : Nat} {pl : Nat → List Nat}
end
end Go.Proofs.YtamafdcnbcoegaaGreat
namespace Go.Proofs.YtamafdcnbcoegaaGreat
open Go.RowKit

end Go.Proofs.YtamafdcnbcoegaaGreat
namespace Go.Proofs.YtamafdcnbcoegaaGreat
open Go.RowKit
section
variable {w : World} {p : Nat} {g : Nat → Nat} {free : List Nat} {sh : Nat → List (Nat × Value)} {st : Mod.Stv} {c : Av} {a : Mod.Ag} {pl : Nat → List Nat}

end
end Go.Proofs.YtamafdcnbcoegaaGreat
namespace Go.Proofs.YtamafdcnbcoegaaGreat
open Go.RowKit

end Go.Proofs.YtamafdcnbcoegaaGreat

namespace Go.Proofs.YtamafdcnbcoegaaGreat
open Go.RowKit
section
variable {w x : World} {p : Nat} {g : Nat → Nat} {tk : Nat} {wel fen : Bool} {free : List Nat} {sh : Nat → List (Nat × Value)} {st : Mod.Stv} {c : Av} {a : Mod.Ag} {pl : Nat → List Nat}
end
end Go.Proofs.YtamafdcnbcoegaaGreat
namespace Go.Proofs.YtamafdcnbcoegaaGreat
open Go.RowKit
section
variable {w : World} {p : Nat} {g : Nat → Nat} {free : List Nat} {sh : Nat → List (Nat × Value)} {st : Mod.Stv} {c : Av} {a : Mod.Ag} {op : Nat} {pl : Nat → List Nat}
end
end Go.Proofs.YtamafdcnbcoegaaGreat
namespace Go.Proofs.YtamafdcnbcoegaaGreat
open Go.RowKit

section
variable {g : Nat → Nat} {free : List Nat} {sh : Nat → List (Nat × Value)} {a : Mod.Ag} {op : Nat} {pl : Nat → List Nat}
end
end Go.Proofs.YtamafdcnbcoegaaGreat
namespace Go.Proofs.YtamafdcnbcoegaaGreat
open Go.RowKit
section
variable {w : World} {p : Nat} {g : Nat → Nat} {free : List Nat} {sh : Nat → List (Nat × Value)} {st : Mod.Stv} {c : Av} {a : Mod.Ag} {pl : Nat → List Nat}
end
end Go.Proofs.YtamafdcnbcoegaaGreat
namespace Go.Proofs.YtamafdcnbcoegaaGreat
open Go.RowKit

section
variable {P : Program} {ops : Array Oper} {Q : Exit → Act → World → Prop}

end
end Go.Proofs.YtamafdcnbcoegaaGreat
namespace Go.Proofs.YtamafdcnbcoegaaGreat
open Go.RowKit

end Go.Proofs.YtamafdcnbcoegaaGreat

namespace Go.Proofs.YtamafdcnbcoegaaGreat
open Go.RowKit

end Go.Proofs.YtamafdcnbcoegaaGreat
namespace Go.Proofs.YtamafdcnbcoegaaGreat
open Go.RowKit

end Go.Proofs.YtamafdcnbcoegaaGreat
namespace Go.Proofs.YtamafdcnbcoegaaGreat
open Go.RowKit

end Go.Proofs.YtamafdcnbcoegaaGreat
namespace Go.Proofs.YtamafdcnbcoegaaGreat
open Go.RowKit

end Go.Proofs.YtamafdcnbcoegaaGreat
namespace Go.Proofs.YtamafdcnbcoegaaGreat
open Go.RowKit

end Go.Proofs.YtamafdcnbcoegaaGreat
namespace Go.Proofs.YtamafdcnbcoegaaGreat
open Go.RowKit

end Go.Proofs.YtamafdcnbcoegaaGreat
namespace Go.Proofs.YtamafdcnbcoegaaGreat
open Go.RowKit

end Go.Proofs.YtamafdcnbcoegaaGreat
namespace Go.Proofs.YtamafdcnbcoegaaGreat
open Go.RowKit

end Go.Proofs.YtamafdcnbcoegaaGreat

namespace Go.Proofs.YtamafdcnbcoegaaGreat
open Go.RowKit
section
variable {w : World} {p : Nat} {g0 : Nat → Nat} {free : List Nat} {sh : Nat → List (Nat × Value)} {st : Mod.Stv} {c : Av} {a a2 : Mod.Ag} {pl : Nat → List Nat}
end
section
variable {w : World} {p : Nat} {g0 : Nat → Nat} {free : List Nat} {sh : Nat → List (Nat × Value)} {st : Mod.Stv} {c : Av} {a : Mod.Ag} {pl : Nat → List Nat}
end
end Go.Proofs.YtamafdcnbcoegaaGreat
namespace Go.Proofs.YtamafdcnbcoegaaGreat
open Go.RowKit
attribute [local go_sem] Oper.semAt_some
section
variable {w : World} {p : Nat} {g : Nat → Nat} {free : List Nat} {sh : Nat → List (Nat × Value)} {st : Mod.Stv} {c : Av} {a : Mod.Ag} {pl : Nat → List Nat}
end
end Go.Proofs.YtamafdcnbcoegaaGreat
namespace Go.Proofs.YtamafdcnbcoegaaGreat
open Go.RowKit

end Go.Proofs.YtamafdcnbcoegaaGreat
namespace Go.Proofs.YtamafdcnbcoegaaGreat
open Go.RowKit

end Go.Proofs.YtamafdcnbcoegaaGreat
namespace Go.Proofs.YtamafdcnbcoegaaGreat
open Go.RowKit

end Go.Proofs.YtamafdcnbcoegaaGreat
namespace Go.Proofs.YtamafdcnbcoegaaGreat
open Go.RowKit

end Go.Proofs.YtamafdcnbcoegaaGreat
namespace Go.Proofs.YtamafdcnbcoegaaGreat
open Go.RowKit

section
variable {w x : World} {p : Nat} {g : Nat → Nat} {tk : Nat} {wel fen : Bool} {free : List Nat} {sh sh2 : Nat → List (Nat × Value)} {st : Mod.Stv} {c c2 : Av}
end
end Go.Proofs.YtamafdcnbcoegaaGreat
namespace Go.Proofs.YtamafdcnbcoegaaGreat
open Go.RowKit
section
variable {w : World} {p : Nat} {g : Nat → Nat} {free : List Nat} {sh : Nat → List (Nat × Value)} {st : Mod.Stv} {c : Av} {a : Mod.Ag} {pl : Nat → List Nat}
end
end Go.Proofs.YtamafdcnbcoegaaGreat
namespace Go.Proofs.YtamafdcnbcoegaaGreat
open Go.RowKit

end Go.Proofs.YtamafdcnbcoegaaGreat
namespace Go.Proofs.YtamafdcnbcoegaaGreat
open Go.RowKit

end Go.Proofs.YtamafdcnbcoegaaGreat

namespace Go.Proofs.YtamafdcnbcoegaaGreat
open Go.RowKit

section
variable {w W W' : World} {g0 p i : Nat} {c : Av} {st : Mod.Stv} {g : Nat → Nat} {free : List Nat} {pl : Nat → List Nat} {F : List ByteArray} {A : Mod.Ag}
end
end Go.Proofs.YtamafdcnbcoegaaGreat
namespace Go.Proofs.YtamafdcnbcoegaaGreat
open Go.RowKit
section
variable {w W : World} {g0 p i : Nat} {c : Av} {st : Mod.Stv} {g : Nat → Nat} {free : List Nat} {pl : Nat → List Nat} {F : List ByteArray} {a : Mod.Ag} {tk k : Nat}
end
end Go.Proofs.YtamafdcnbcoegaaGreat
namespace Go.Proofs.YtamafdcnbcoegaaGreat
open Go.RowKit

section
variable {P : Program} {ops : Array Oper} {Q : Exit → Act → World → Prop} {lr n : Nat}

end
end Go.Proofs.YtamafdcnbcoegaaGreat
namespace Go.Proofs.YtamafdcnbcoegaaGreat
open Go.RowKit
section
variable {w W : World} {g0 p i : Nat} {c : Av} {st : Mod.Stv} {g : Nat → Nat} {free : List Nat} {sh : Nat → List (Nat × Value)} {pl : Nat → List Nat} {F : List ByteArray} {a : Mod.Ag} {tk k : Nat}
end
end Go.Proofs.YtamafdcnbcoegaaGreat
namespace Go.Proofs.YtamafdcnbcoegaaGreat
open Go.RowKit
section
variable {w W z : World} {g0 p i : Nat} {c c' : Av} {st : Mod.Stv} {g : Nat → Nat} {free : List Nat} {sh : Nat → List (Nat × Value)} {pl : Nat → List Nat} {F : List ByteArray} {A : Mod.Ag} {lv lv' v : Value} {fs : List Value} {b : ByteArray}
end
end Go.Proofs.YtamafdcnbcoegaaGreat
namespace Go.Proofs.YtamafdcnbcoegaaGreat
open Go.RowKit

section
variable {P : Program} {ops : Array Oper} {Q : Exit → Act → World → Prop} {lr n : Nat}

end
end Go.Proofs.YtamafdcnbcoegaaGreat
namespace Go.Proofs.YtamafdcnbcoegaaGreat
open Go.RowKit
attribute [local go_sem] Oper.semAt_some
section
variable {w W : World} {g0 p i : Nat} {c : Av} {st : Mod.Stv} {g : Nat → Nat} {free : List Nat} {sh : Nat → List (Nat × Value)} {pl : Nat → List Nat} {F : List ByteArray} {a : Mod.Ag} {tk k : Nat}
end
section
variable {w : World} {p : Nat} {g : Nat → Nat} {free : List Nat} {sh : Nat → List (Nat × Value)} {st : Mod.Stv} {c : Av} {a : Mod.Ag} {pl : Nat → List Nat}
end
end Go.Proofs.YtamafdcnbcoegaaGreat

namespace Go.Proofs.YtamafdcnbcoegaaGreat
open Go.RowKit

end Go.Proofs.YtamafdcnbcoegaaGreat
namespace Go.Proofs.YtamafdcnbcoegaaGreat
open Go.RowKit
end Go.Proofs.YtamafdcnbcoegaaGreat
namespace Go.Proofs.YtamafdcnbcoegaaGreat
open Go.RowKit
section
variable {w : World} {p : Nat} {g : Nat → Nat} {free : List Nat} {sh : Nat → List (Nat × Value)} {st : Mod.Stv} {c : Av} {a : Mod.Ag} {pl : Nat → List Nat}
end
end Go.Proofs.YtamafdcnbcoegaaGreat
namespace Go.Proofs.YtamafdcnbcoegaaGreat
open Go.RowKit

section
variable {top N : Nat} {C : AgentC top} {w x y : World} {q sv rp f : Nat} {a ar ap : Mod.Ag} {r : RRest} {kv kvc hk hkc : Nat → Value} {U U' : Nat → Prop} {left : Int} {i : Int} {s : ByteArray}
end
end Go.Proofs.YtamafdcnbcoegaaGreat
namespace Go.Proofs.YtamafdcnbcoegaaGreat
open Go.RowKit

section
variable {w : World} {p : Nat} {g : Nat → Nat} {free : List Nat} {sh : Nat → List (Nat × Value)} {st : Mod.Stv} {c : Av} {a : Mod.Ag} {pl : Nat → List Nat}
end
section
variable {w z : World} {p v : Nat} {g : Nat → Nat} {tk : Nat} {wel fen : Bool} {free : List Nat} {sh : Nat → List (Nat × Value)} {st : Mod.Stv} {c : Av} {a a' : Mod.Ag} {U : Nat → Prop} {N : Nat}
end
end Go.Proofs.YtamafdcnbcoegaaGreat
namespace Go.Proofs.YtamafdcnbcoegaaGreat
open Go.RowKit

def skLogs (a : Mod.Sk) (i : Int) : List ByteArray := if 0 ≤ i ∧ i < 3 then a.logs i.toNat else []
end Go.Proofs.YtamafdcnbcoegaaGreat
namespace Go.Proofs.YtamafdcnbcoegaaGreat
open Go.RowKit

end Go.Proofs.YtamafdcnbcoegaaGreat
namespace Go.Proofs.YtamafdcnbcoegaaGreat
open Go.RowKit

theorem Same.blk {B : Nat} {G : Nat → Prop} {x y : World} (h : Same B G x y) {k : Nat} (hk : k < x.heap.size) (hg : G k) : y.heap[k]? = x.heap[k]? := h.rest k hk (fun e => e.2 hg)
theorem Same.less {B : Nat} {G G' : Nat → Prop} {x y : World} (h : Same B G x y) (hG : ∀ j, G' j → G j) : Same B G' x y := Far.mono h (fun j _ e => ⟨e.1, fun g => e.2 (hG j g)⟩)
section
variable {top : Nat} {C : AgentC top} {D : SinkC} {B N : Nat} {x y : World} {va vs : Nat} {a : Mod.Ag} {k : Mod.Sk} {G : Nat → Prop}
theorem Ends.log (h : Ends C D B N x va vs a k G) (i : Int) :
    Calls Tryz.prog 32 #[ptrTo vs, .int .i64 i] x fun r y => ∃ lv, r = .returned lv ∧ y.ownsRow x.heap.size 9 1 lv (skLogs k i).length (strs (skLogs k i)) ∧ Ends C D B N y va vs a k (fun j => G j ∨ (x.heap.size ≤ j ∧ j < y.heap.size)) ∧ Below x.heap.size x y := by
  obtain ⟨U, V, _, h2, _⟩ := h.all
  refine (D.log i h2 h.gk).mono ?_
  rintro r y ⟨lv, rfl, k1, k2⟩
  exact ⟨lv, rfl, k1, h.more k2, k2⟩
end
end Go.Proofs.YtamafdcnbcoegaaGreat
namespace Go.Proofs.YtamafdcnbcoegaaGreat
open Go.RowKit

end Go.Proofs.YtamafdcnbcoegaaGreat
namespace Go.Proofs.YtamafdcnbcoegaaGreat
open Go.RowKit

end Go.Proofs.YtamafdcnbcoegaaGreat
namespace Go.Proofs.YtamafdcnbcoegaaGreat
open Go.RowKit

end Go.Proofs.YtamafdcnbcoegaaGreat
namespace Go.Proofs.YtamafdcnbcoegaaGreat

end Go.Proofs.YtamafdcnbcoegaaGreat
namespace Go.Proofs.YtamafdcnbcoegaaGreat

end Go.Proofs.YtamafdcnbcoegaaGreat
namespace Go.Proofs.YtamafdcnbcoegaaGreat
open Go.RowKit

end Go.Proofs.YtamafdcnbcoegaaGreat
namespace Go.Proofs.YtamafdcnbcoegaaGreat
open Go.RowKit
section
variable {top : Nat} {C : AgentC top} {D : SinkC} {B i : Nat} {x y : World} {va vs g : Nat} {xs : Nat → Nat} {wv : Nat → Value}
end
end Go.Proofs.YtamafdcnbcoegaaGreat
namespace Go.Proofs.YtamafdcnbcoegaaGreat
def kn0 : Mod.Ag := agSubmits (agSubmits { epoch := 1, ticks := 0, welcome := false, fenced := false, fl := fun _ => { base := 0, kept := [], held := [] } } 1 ⟨#[120]⟩) 1 ⟨#[121]⟩
theorem kn_ok : ∀ j, j < 3 → (exchM (exN kn0 sk00 j).1 (exN kn0 sk00 j).2).2.2 = true := by decide +kernel
theorem kn_spool : agSpools (exN kn0 sk00 3).1 1 = [] := by decide +kernel
theorem kn_ref : (exN kn0 sk00 3).1.refuses 1 1 = 0 := by decide +kernel
theorem kn_more : agSpools (agSubmits (exN kn0 sk00 3).1 1 ⟨#[122]⟩) 1 = [⟨#[122]⟩] := by decide +kernel
end Go.Proofs.YtamafdcnbcoegaaGreat
namespace Go.Proofs.YtamafdcnbcoegaaGreat
open Go.RowKit
def ag00 : Mod.Ag := { epoch := 1, ticks := 0, welcome := false, fenced := false, fl := fun _ => { base := 0, kept := [], held := [] } }
theorem kn_is : kn0 = agSubmits (agSubmits ag00 1 ⟨#[120]⟩) 1 ⟨#[121]⟩ := rfl
theorem kn_x : ag00.refuses 1 (⟨#[120]⟩ : ByteArray).size = 0 := by decide +kernel
theorem kn_y : (agSubmits ag00 1 ⟨#[120]⟩).refuses 1 (⟨#[121]⟩ : ByteArray).size = 0 := by decide +kernel
theorem kn_logs : skLogs (exN kn0 sk00 3).2 1 = [⟨#[120]⟩, ⟨#[121]⟩] := by decide +kernel
/-- The two ends at the head. -/
theorem ends_start {top : Nat} {C : AgentC top} {D : SinkC} {w x1 x2 : World} {va vs : Nat} {U V : Nat → Prop} (a1 : C.At x1 va ag00 U) (a2 : Below w.heap.size w x1) (a3 : ∀ j, U j → w.heap.size ≤ j) (s1 : D.At x2 vs sk00 V) (s2 : Below x1.heap.size x1 x2) (s3 : ∀ j, V j → x1.heap.size ≤ j) :
    Ends C D w.heap.size 0 x2 va vs ag00 sk00 (fun _ => False) ∧ Below w.heap.size w x2 := by
  have hw1 := a2.size
  have hw2 := s2.size
  have hUl := C.lt a1
  exact ⟨⟨⟨U, V, C.far a1 (E := fun _ => False) (far_below s2) (fun _ _ e => e), s1, fun j hj e => by have := hUl j hj; have := s3 j e; omega, a3, fun j hj => Nat.le_trans hw1 (s3 j hj), fun j hj => hj.elim⟩, agGood_zero 0, skGood_new, by omega⟩, a2.trans (s2.mono hw1)⟩
theorem keepAgent_00 {top : Nat} (C : AgentC top) (w : World) :
    Calls Tryz.prog 18 #[] w fun r y => ∃ v U, r = .returned (ptrTo v) ∧ C.At y v ag00 U ∧ Below w.heap.size w y ∧ ∀ j, U j → w.heap.size ≤ j := keepAgent_any C w
theorem keepSink_00 (D : SinkC) (w : World) :
    Calls Tryz.prog 19 #[] w fun r y => ∃ v U, r = .returned (ptrTo v) ∧ D.At y v sk00 U ∧ Below w.heap.size w y ∧ ∀ j, U j → w.heap.size ≤ j := keepSink_any D w
/-- A list of strings that came out, in the older world's frame. -/
def OutL (B : Nat) (w : World) (v : Value) (l : List ByteArray) : Prop := ∃ ad cap, v = .slice ad l.length cap ∧ l.length ≤ cap ∧ cap ≤ maxLen ∧ (0 < l.length → ∃ g o, ad = some ⟨g, o, none⟩ ∧ B ≤ g ∧ g < w.heap.size ∧ ∀ i, i < l.length → w.cell? ⟨g, o + i, none⟩ = (strs l)[i]?)
theorem outL {B : Nat} {w : World} {v : Value} {l : List ByteArray} (h : w.ownsRow B 9 1 v l.length (strs l)) : OutL B w v l := by
  have hl := listAt_own h
  obtain ⟨ad, cap, e, h1, h2, h3⟩ := hl
  rw [strs_length] at e h1 h3
  refine ⟨ad, cap, e, h1, h2, fun h0 => ?_⟩
  obtain ⟨g, o, e2, h4, h5⟩ := h3 h0
  have := World.ownsRow.lt h g (by rw [e, e2]; rfl)
  exact ⟨g, o, e2, this.1, h4, fun i hi => h5 i hi⟩
theorem OutL.far {B : Nat} {x y : World} {v : Value} {l : List ByteArray} {E : Nat → Prop} (h : OutL B x v l) (hF : Far E x y) (hE : ∀ j, B ≤ j → j < x.heap.size → ¬ E j) : OutL B y v l := by
  obtain ⟨ad, cap, e, h1, h2, h3⟩ := h
  refine ⟨ad, cap, e, h1, h2, fun h0 => ?_⟩
  obtain ⟨g, o, e2, h4, h5, h6⟩ := h3 h0
  exact ⟨g, o, e2, h4, Nat.lt_of_lt_of_le h5 hF.size, fun i hi => by rw [← h6 i hi]; unfold World.cell?; simp only [hF.rest g h5 (hE g h4 h5)]⟩
set_option maxRecDepth 100000 in
set_option maxHeartbeats 4000000 in
theorem known_any {top : Nat} (C : AgentC top) (D : SinkC) (ht : 1000 ≤ top) (w : World) :
    Calls Tryz.prog 20 #[] w fun r y => r = .returned (.bool true) ∧ Below w.heap.size w y := by
  go_enter Tryz.func20, Tryz.ntmps20
  go_upto_region 2 with (go_at_call 18; refine (keepAgent_00 C _).mono ?_; rintro r x1 ⟨va, U, rfl, k1, k2, k3⟩; have HA := hide (And.intro k1 (And.intro k2 k3)); clear k1 k2 k3)
  go_upto_region 3 with (go_at_call 19; refine (keepSink_00 D _).mono ?_; rintro r x2 ⟨vs, V, rfl, k1, k2, k3⟩; have HS := hide (And.intro k1 (And.intro k2 k3)); clear k1 k2 k3)
  unfold ptrTo at *
  have HE := hide (ends_start (unhide HA).1 (unhide HA).2.1 (unhide HA).2.2 (unhide HS).1 (unhide HS).2.1 (unhide HS).2.2)
  clear HA HS
  have H1 := (unhide HE).1.submit (by omega) 1 ⟨#[120]⟩
  rw [kn_x] at H1
  replace H1 := hide H1
  unfold ptrTo at H1
  go_upto_region 6 with (go_at_call 21; refine (unhide H1).mono ?_; rintro r y1 ⟨rfl, k1, k2⟩; have HE1 := hide (And.intro k1 ((unhide HE).2.trans (k2.bel (unhide HE).1.bx))); clear k1 k2)
  clear HE H1
  have H2 := (unhide HE1).1.submit (by omega) 1 ⟨#[121]⟩
  rw [kn_y, ← kn_is] at H2
  replace H2 := hide H2
  unfold ptrTo at H2
  go_upto_region 7 with (go_at_call 21; refine (unhide H2).mono ?_; rintro r y2 ⟨rfl, k1, k2⟩; have HE2 := hide (And.intro k1 ((unhide HE1).2.trans (k2.bel (unhide HE1).1.bx))); clear k1 k2)
  clear HE1 H2
  have HOK := hide kn_ok
  have HLG := hide kn_logs
  have HSP := hide kn_spool
  have HRF := hide kn_ref
  have HMO := hide kn_more
  have hz : exN kn0 sk00 0 = (kn0, sk00) := rfl
  have hs := exN_succ kn0 sk00
  generalize exN kn0 sk00 = A4 at HOK HLG HSP HRF HMO hz hs
  have HZ := hide hz
  have HN4 := hide hs
  clear hz hs
  go_wp2
  go_loopw [5, 6, 7] (fun i _ _ wr => ∃ t : Nat, t ≤ 3 ∧ i = .int .i64 t ∧ Ends C D w.heap.size (2 + t) wr va vs (A4 t).1 (A4 t).2 (fun _ => False) ∧ Below w.heap.size w wr) (fun i _ _ _ => 3 - (intOf i).toNat)
  case atStart =>
    refine ⟨0, by omega, rfl, ?_, (unhide HE2).2⟩
    rw [unhide HZ]
    exact (unhide HE2).1
  case round =>
    obtain ⟨t4, ht4, rfl, hE, hB⟩ := hrel
    clear HE2
    by_cases hlt4 : t4 < 3
    · have hji : (t4 : Int) < 3 := by omega
      have HX0 := exchange_any C D w.heap.size (2 + t4) _ va vs _ _ _ hE (by omega)
      rw [(unhide HOK) t4 hlt4] at HX0
      have e4 := (unhide HN4) t4
      have e1 : (exchM (A4 t4).1 (A4 t4).2).1 = (A4 (t4 + 1)).1 := by rw [e4]
      have e2 : (exchM (A4 t4).1 (A4 t4).2).2.1 = (A4 (t4 + 1)).2 := by rw [e4]
      rw [e1, e2] at HX0
      clear e4 e1 e2
      generalize (((A4 t4).1.tick.2.length : Nat) : Int) = nx at HX0
      have HX := hide HX0
      have HBX := hide hE.bx
      have HB := hide hB
      unfold ptrTo at HX
      clear hE hB HX0
      go_wp2_with (go_at_call 31; refine (unhide HX).mono ?_; rintro r y7 ⟨rfl, k1, k2⟩; have HE7 := hide k1; have HS7 := hide k2; clear k1 k2)
      go_roundw
      case rel => exact ⟨t4 + 1, by omega, by go_num, unhide HE7, (unhide HB).trans ((unhide HS7).bel (unhide HBX))⟩
      case measure => simp [intOf]; omega
    · have ht43 : t4 = 3 := by omega
      subst ht43
      have hji : ¬ ((3 : Nat) : Int) < 3 := by omega
      have HL0 := hE.log 1
      have hlg : skLogs (A4 3).2 1 = [⟨#[120]⟩, ⟨#[121]⟩] := unhide HLG
      rw [hlg] at HL0
      have HL := hide HL0
      have HB := hide hB
      have HE := hide hE
      unfold ptrTo at HL
      clear hE hB HL0 hlg
      go_upto_region 14 with (go_at_call 32; refine (unhide HL).mono ?_; rintro r z1 ⟨lv1, rfl, k1, k2, k3⟩; have HO1 := hide (outL k1); have HE1 := hide (And.intro k2 ((unhide HB).trans (k3.mono (unhide HB).size))); clear k1 k2 k3)
      have HL0 := (unhide HE1).1.spool 1
      have hlg : agSpools (A4 3).1 1 = [] := unhide HSP
      rw [hlg] at HL0
      have HK := hide HL0
      unfold ptrTo at HK
      clear HL0 hlg HE HL
      go_upto_region 15 with (go_at_call 26; refine (unhide HK).mono ?_; rintro r z2 ⟨lv2, rfl, k1, k2, k3⟩; have HO2 := hide (outL k1); have HE2 := hide (And.intro k2 ((unhide HE1).2.trans (k3.mono (unhide HE1).2.size))); have HF2 := hide k3; clear k1 k2 k3)
      have HU0 := (unhide HE2).1.submit (by omega) 1 ⟨#[122]⟩
      have hr0 : (A4 3).1.refuses 1 (⟨#[122]⟩ : ByteArray).size = 0 := unhide HRF
      rw [hr0] at HU0
      have HU := hide HU0
      unfold ptrTo at HU
      clear HU0 hr0 HE1 HK
      go_upto_region 16 with (go_at_call 21; refine (unhide HU).mono ?_; rintro r z3 ⟨rfl, k1, k2⟩; have HE3 := hide (And.intro k1 ((unhide HE2).2.trans (k2.bel (unhide HE2).1.bx))); have HF3 := hide k2; clear k1 k2)
      have HL0 := (unhide HE3).1.spool 1
      have hlg : agSpools (agSubmits (A4 3).1 1 ⟨#[122]⟩) 1 = [⟨#[122]⟩] := unhide HMO
      rw [hlg] at HL0
      have HK := hide HL0
      unfold ptrTo at HK
      clear HL0 hlg HU
      go_upto_region 17 with (go_at_call 26; refine (unhide HK).mono ?_; rintro r z4 ⟨lv4, rfl, k1, k2, k3⟩; have HO4 := hide (outL k1); have HB4 := hide ((unhide HE3).2.trans (k3.mono (unhide HE3).2.size)); have HF4 := hide k3; clear k1 k2 k3)
      have o1 := (unhide HO1).far (far_below (unhide HF2)) (fun _ _ _ e => e)
      have o1 := o1.far (unhide HF3) (fun j h1 h2 e => e.2 (by
        by_cases hj : j < z1.heap.size
        · exact .inl (.inr ⟨h1, hj⟩)
        · exact .inr ⟨by omega, h2⟩))
      have o1 := o1.far (far_below (unhide HF4)) (fun _ _ _ e => e)
      obtain ⟨ad1, cap1, rfl, l1, m1, n1⟩ := o1
      obtain ⟨g1, p1, rfl, _, _, n1⟩ := n1 (by decide)
      have c0 : z4.cell? ⟨g1, p1, none⟩ = some (.string ⟨#[120]⟩) := n1 0 (by decide)
      have c1 : z4.cell? ⟨g1, p1 + 1, none⟩ = some (.string ⟨#[121]⟩) := n1 1 (by decide)
      obtain ⟨ad2, cap2, rfl, l2, m2, _⟩ := unhide HO2
      obtain ⟨ad4, cap4, rfl, l4, m4, n4⟩ := unhide HO4
      obtain ⟨g4, p4, rfl, _, _, n4⟩ := n4 (by decide)
      have c4 : z4.cell? ⟨g4, p4, none⟩ = some (.string ⟨#[122]⟩) := n4 0 (by decide)
      clear n1 n4 HO1 HO2 HO4 HF2 HF3 HF4 HE2 HE3
      simp only [List.length_cons, List.length_nil, Nat.zero_add] at *
      go_wp2
      go_ret
      exact ⟨rfl, unhide HB4⟩
end Go.Proofs.YtamafdcnbcoegaaGreat
namespace Go.Proofs.YtamafdcnbcoegaaGreat

/-- Which of a stream's first records are due. -/
def dues (f : Mod.Flow) (t : Nat) : Nat → List Nat
  | 0 => []
  | i + 1 => match f.kept[i]? with
    | none => dues f t i
    | some x => if Mod.due f t i x.2 = true then dues f t i ++ [i] else dues f t i
section
variable {f : Mod.Flow} {t : Nat}
theorem dues_mem : ∀ {k i}, i ∈ dues f t k → i < k ∧ ∃ x, f.kept[i]? = some x ∧ Mod.due f t i x.2 = true
  | 0, i, h => by simp [dues] at h
  | k + 1, i, h => by
    rw [dues] at h
    split at h
    · have := dues_mem h; exact ⟨by omega, this.2⟩
    · rename_i x hx
      split at h
      · rename_i hd
        rw [List.mem_append, List.mem_singleton] at h
        rcases h with h | rfl
        · have := dues_mem h; exact ⟨by omega, this.2⟩
        · exact ⟨by omega, x, hx, hd⟩
      · have := dues_mem h; exact ⟨by omega, this.2⟩
theorem dues_sorted : ∀ k, (dues f t k).Pairwise (· < ·)
  | 0 => List.Pairwise.nil
  | k + 1 => by
    rw [dues]
    split
    · exact dues_sorted k
    · split
      · rw [List.pairwise_append]
        refine ⟨dues_sorted k, List.pairwise_singleton _ _, fun x hx y hy => ?_⟩
        rw [List.mem_singleton] at hy
        subst hy
        exact (dues_mem hx).1
      · exact dues_sorted k
theorem dues_skip {i : Nat} (h : i < f.kept.length) (hd : Mod.due f t i f.kept[i].2 = false) : dues f t (i + 1) = dues f t i := by
  simp only [dues, List.getElem?_eq_getElem h, hd]
  rfl
theorem dues_send {i : Nat} (h : i < f.kept.length) (hd : Mod.due f t i f.kept[i].2 = true) : dues f t (i + 1) = dues f t i ++ [i] := by
  simp only [dues, List.getElem?_eq_getElem h, hd]
  rfl
theorem dues_over {i : Nat} (h : f.kept.length ≤ i) : dues f t (i + 1) = dues f t i := by
  simp only [dues, List.getElem?_eq_none_iff.2 h]
theorem sendTo_dues (e s : Nat) : ∀ k, (Mod.sendTo e s f t k).2 = (dues f t k).map fun i => Wire.bytes 3 e s (f.base + 1 + i : Nat) ((f.kept.getD i (⟨#[]⟩, 0)).1.data.toList)
  | 0 => rfl
  | k + 1 => by
    by_cases h : k < f.kept.length
    · cases hd : Mod.due f t k f.kept[k].2 with
      | false => rw [sendTo_skip h hd, dues_skip h hd, sendTo_dues e s k]
      | true =>
        rw [sendTo_send h hd, dues_send h hd, List.map_append, sendTo_dues e s k]
        simp [List.getD_eq_getElem?_getD, List.getElem?_eq_getElem h]
    · rw [sendTo_over (by omega), dues_over (by omega), sendTo_dues e s k]
theorem sendTo_marks (e s : Nat) : ∀ k j, (Mod.sendTo e s f t k).1[j]? = (f.kept[j]?).map fun x => if j ∈ dues f t k then (x.1, t) else x
  | 0, j => by simp [dues, Mod.sendTo]
  | k + 1, j => by
    have ih := sendTo_marks e s k j
    by_cases h : k < f.kept.length
    · cases hd : Mod.due f t k f.kept[k].2 with
      | false => rw [sendTo_skip h hd, dues_skip h hd, ih]
      | true =>
        rw [sendTo_send h hd, dues_send h hd]
        show ((Mod.sendTo e s f t k).1.set k _)[j]? = _
        rw [List.getElem?_set]
        by_cases e1 : k = j
        · subst e1
          rw [if_pos rfl, if_pos (by rw [sendTo_len]; exact h), List.getElem?_eq_getElem h]
          simp
        · rw [if_neg e1, ih]
          congr 1
          funext x
          have : (j ∈ dues f t k ++ [k]) = (j ∈ dues f t k) := by
            rw [List.mem_append, List.mem_singleton]
            exact propext ⟨fun h => h.resolve_right (fun e => e1 e.symm), .inl⟩
          simp only [this]
    · rw [sendTo_over (by omega), dues_over (by omega), ih]
end
/-- All that is due at a tick: a stream, and a record's place. -/
def allDues (a : Mod.Ag) (t : Nat) : List (Nat × Nat) := (dues (a.fl 0) t 4).map (fun i => (0, i)) ++ (dues (a.fl 1) t 4).map (fun i => (1, i)) ++ (dues (a.fl 2) t 4).map (fun i => (2, i))
theorem allDues_mem {a : Mod.Ag} {t : Nat} {p : Nat × Nat} : p ∈ allDues a t ↔ p.1 < 3 ∧ p.2 ∈ dues (a.fl p.1) t 4 := by
  obtain ⟨s, j⟩ := p
  simp only [allDues, List.mem_append, List.mem_map, Prod.mk.injEq]
  constructor
  · rintro ((⟨i, h, rfl, rfl⟩ | ⟨i, h, rfl, rfl⟩) | ⟨i, h, rfl, rfl⟩)
    · exact ⟨by omega, h⟩
    · exact ⟨by omega, h⟩
    · exact ⟨by omega, h⟩
  · rintro ⟨h1, h2⟩
    obtain rfl | rfl | rfl : s = 0 ∨ s = 1 ∨ s = 2 := by omega
    · exact .inl (.inl ⟨j, h2, rfl, rfl⟩)
    · exact .inl (.inr ⟨j, h2, rfl, rfl⟩)
    · exact .inr ⟨j, h2, rfl, rfl⟩
theorem sendOut_all (a : Mod.Ag) (e t : Nat) : Mod.sendOut e t a.fl 3 = (allDues a t).map fun p => Wire.bytes 3 e p.1 ((a.fl p.1).base + 1 + p.2 : Nat) (((a.fl p.1).kept.getD p.2 (⟨#[]⟩, 0)).1.data.toList) := by
  simp only [Mod.sendOut, sendTo_dues, allDues, List.map_append, List.map_map, List.nil_append]
  rfl
/-- A record's number among all. -/
def keyOf (a : Mod.Ag) (p : Nat × Nat) : Nat := p.1 * 1000 + ((a.fl p.1).base + 1 + p.2)
theorem allDues_sorted {a : Mod.Ag} {t : Nat} (h : ∀ s, s < 3 → (a.fl s).base + (a.fl s).kept.length ≤ 80) : (allDues a t).Pairwise fun p q => keyOf a p < keyOf a q := by
  have hm : ∀ s, s < 3 → ∀ i ∈ dues (a.fl s) t 4, (a.fl s).base + 1 + i ≤ 80 := fun s hs i hi => by
    obtain ⟨_, x, hx, _⟩ := dues_mem hi
    have := (List.getElem?_eq_some_iff.1 hx).1
    have := h s hs
    omega
  have hp : ∀ s, ((dues (a.fl s) t 4).map (fun i => (s, i))).Pairwise fun p q => keyOf a p < keyOf a q := fun s => by
    rw [List.pairwise_map]
    refine (dues_sorted 4).imp (fun {x y} hxy => ?_)
    unfold keyOf
    simp only
    omega
  have hx : ∀ s s', s < s' → s' < 3 → ∀ p ∈ (dues (a.fl s) t 4).map (fun i => (s, i)), ∀ q ∈ (dues (a.fl s') t 4).map (fun i => (s', i)), keyOf a p < keyOf a q := fun s s' h1 h2 p hp' q hq => by
    obtain ⟨i, hi, rfl⟩ := List.mem_map.1 hp'
    obtain ⟨j, hj, rfl⟩ := List.mem_map.1 hq
    have := hm s (by omega) i hi
    unfold keyOf
    simp only
    omega
  unfold allDues
  rw [List.pairwise_append, List.pairwise_append]
  refine ⟨⟨hp 0, hp 1, hx 0 1 (by omega) (by omega)⟩, hp 2, fun p hp' q hq => ?_⟩
  rw [List.mem_append] at hp'
  rcases hp' with hp' | hp'
  · exact hx 0 2 (by omega) (by omega) p hp' q hq
  · exact hx 1 2 (by omega) (by omega) p hp' q hq
open Classical in
/-- The ticks at which records were sent last, when so many frames have been looked at. -/
noncomputable def lastN (a : Mod.Ag) (t : Nat) (last : Nat → Nat → Nat) (i s q : Nat) : Nat := if ∃ p ∈ (allDues a t).take i, p.1 = s ∧ (a.fl s).base + 1 + p.2 = q then t else last s q
theorem lastN_zero (a : Mod.Ag) (t : Nat) (last : Nat → Nat → Nat) : lastN a t last 0 = last := by
  funext s q
  unfold lastN
  rw [if_neg (by simp)]
theorem lastN_succ {a : Mod.Ag} {t : Nat} {last : Nat → Nat → Nat} {i : Nat} {p : Nat × Nat} (h : (allDues a t)[i]? = some p) (s q : Nat) :
    lastN a t last (i + 1) s q = if p.1 = s ∧ (a.fl s).base + 1 + p.2 = q then t else lastN a t last i s q := by
  have ht : ∀ p2, p2 ∈ (allDues a t).take (i + 1) ↔ p2 ∈ (allDues a t).take i ∨ p2 = p := fun p2 => by
    rw [List.take_add_one, h]
    simp
  unfold lastN
  by_cases e : p.1 = s ∧ (a.fl s).base + 1 + p.2 = q
  · have : ∃ p ∈ (allDues a t).take (i + 1), p.1 = s ∧ (a.fl s).base + 1 + p.2 = q := ⟨p, (ht p).2 (.inr rfl), e⟩
    rw [if_pos e, if_pos this]
  · rw [if_neg e]
    by_cases e2 : ∃ p ∈ (allDues a t).take i, p.1 = s ∧ (a.fl s).base + 1 + p.2 = q
    · have : ∃ p ∈ (allDues a t).take (i + 1), p.1 = s ∧ (a.fl s).base + 1 + p.2 = q := e2.imp fun p2 h => ⟨(ht p2).2 (.inl h.1), h.2⟩
      rw [if_pos e2, if_pos this]
    · have : ¬ ∃ p ∈ (allDues a t).take (i + 1), p.1 = s ∧ (a.fl s).base + 1 + p.2 = q := fun ⟨p2, h2, h3⟩ => by
        rcases (ht p2).1 h2 with h2 | rfl
        · exact e2 ⟨p2, h2, h3⟩
        · exact e h3
      rw [if_neg e2, if_neg this]
theorem key_lt {a : Mod.Ag} {t : Nat} (hs : (allDues a t).Pairwise fun p q => keyOf a p < keyOf a q) {i j : Nat} {p q : Nat × Nat} (hp : (allDues a t)[i]? = some p) (hq : (allDues a t)[j]? = some q) (h : i < j) : keyOf a p < keyOf a q := by
  obtain ⟨h1, rfl⟩ := List.getElem?_eq_some_iff.1 hp
  obtain ⟨h2, rfl⟩ := List.getElem?_eq_some_iff.1 hq
  exact List.pairwise_iff_getElem.1 hs i j h1 h2 h
/-- A record has not been looked at yet. -/
theorem lastN_old {a : Mod.Ag} {t : Nat} {last : Nat → Nat → Nat} (hs : (allDues a t).Pairwise fun p q => keyOf a p < keyOf a q) {i : Nat} {p : Nat × Nat} (h : (allDues a t)[i]? = some p) :
    lastN a t last i p.1 ((a.fl p.1).base + 1 + p.2) = last p.1 ((a.fl p.1).base + 1 + p.2) := by
  unfold lastN
  rw [if_neg]
  rintro ⟨p2, h2, h3, h4⟩
  obtain ⟨j, hj⟩ := List.getElem?_of_mem h2
  rw [List.getElem?_take] at hj
  split at hj
  · have := key_lt hs hj h (by assumption)
    unfold keyOf at this
    rw [h3] at this
    omega
  · cases hj
end Go.Proofs.YtamafdcnbcoegaaGreat

namespace Go.Proofs.YtamafdcnbcoegaaGreat

/-- What is so of the ends and of what is known of what was sent. -/
structure WinI (a : Mod.Ag) (k : Mod.Sk) (last : Nat → Nat → Nat) (made T : Nat) : Prop where
  ep : a.epoch = 1
  fen : a.fenced = false
  tk : a.ticks = T
  sum : ∀ s, s < 3 → (a.fl s).base + (a.fl s).kept.length ≤ made
  bod : ∀ s, s < 3 → ∀ x ∈ (a.fl s).kept, x.1.size ≤ 20
  rcd : ∀ s, s < 3 → ∀ j x, (a.fl s).kept[j]? = some x → last s ((a.fl s).base + 1 + j) = x.2
  new : ∀ s, s < 3 → ∀ q, (a.fl s).base + (a.fl s).kept.length < q → last s q = 0
  no : a.welcome = false → ∀ s, s < 3 → ∀ q, last s q = 0
  yes : a.welcome = true → k.epoch = 1
  ske : k.epoch ≤ 1
  big : ∀ s, s < 3 → ∀ q, last s q ≤ T
section
variable {a : Mod.Ag} {k : Mod.Sk} {last : Nat → Nat → Nat} {made T : Nat}
theorem winI_00 : WinI ag00 sk00 (fun _ _ => 0) 0 0 :=
  ⟨rfl, rfl, rfl, fun _ _ => Nat.le_refl _, fun s _ x h => (by cases h), fun _ _ _ _ h => (by cases h), fun _ _ _ _ => rfl, fun _ _ _ _ => rfl, fun h => (by cases h), (by decide), fun _ _ _ => Nat.le_refl _⟩
theorem WinI.submit (W : WinI a k last made T) {s : Nat} (hs : s < 3) (b : ByteArray) (hb : b.size ≤ 20) : WinI (agSubmits a s b) k last (made + 1) T := by
  unfold agSubmits
  split
  · have hfl : ∀ t, (a.submit (s : Int).toNat b).fl t = if t = s then { a.fl s with kept := (a.fl s).kept ++ [(b, 0)] } else a.fl t := fun t => by
      unfold Mod.Ag.submit Mod.upd
      simp only [Int.toNat_natCast]
    refine ⟨W.ep, W.fen, W.tk, fun t ht => ?_, fun t ht x hx => ?_, fun t ht j x hx => ?_, fun t ht q hq => ?_, W.no, W.yes, W.ske, W.big⟩
    · rw [hfl]
      split
      · have := W.sum s hs
        simp only [List.length_append, List.length_singleton]
        omega
      · have := W.sum t ht; omega
    · rw [hfl] at hx
      split at hx
      · simp only [List.mem_append, List.mem_singleton] at hx
        rcases hx with hx | rfl
        · exact W.bod s hs x hx
        · exact hb
      · exact W.bod t ht x hx
    · rw [hfl] at hx ⊢
      split
      · rename_i e
        subst e
        rw [if_pos rfl] at hx
        simp only at hx
        rw [List.getElem?_append] at hx
        split at hx
        · exact W.rcd t ht j x hx
        · have hj : j = (a.fl t).kept.length := by
            have h1 := (List.getElem?_eq_some_iff.1 hx).1
            simp only [List.length_singleton] at h1
            omega
          subst hj
          simp at hx
          subst hx
          exact W.new t ht _ (by simp only; omega)
      · rename_i e
        rw [if_neg e] at hx
        exact W.rcd t ht j x hx
    · rw [hfl] at hq
      split at hq
      · rename_i e
        subst e
        simp only [List.length_append, List.length_singleton] at hq
        exact W.new t ht q (by omega)
      · exact W.new t ht q hq
  · exact ⟨W.ep, W.fen, W.tk, fun t ht => by have := W.sum t ht; omega, W.bod, W.rcd, W.new, W.no, W.yes, W.ske, W.big⟩
theorem WinI.tick_no (W : WinI a k last made T) (hw : a.welcome = false) : a.tick = ({ a with ticks := a.ticks + 1 }, [Wire.bytes 1 a.epoch 0 0 []]) ∧ WinI { a with ticks := a.ticks + 1 } k last made (T + 1) := by
  refine ⟨by unfold Mod.Ag.tick; rw [if_neg (by rw [W.fen]; decide), if_pos hw], ⟨W.ep, W.fen, by show a.ticks + 1 = _; rw [W.tk], W.sum, W.bod, W.rcd, W.new, W.no, W.yes, W.ske, fun s hs q => Nat.le_succ_of_le (W.big s hs q)⟩⟩
theorem WinI.sorted (W : WinI a k last made T) (hm : made ≤ 80) (t : Nat) : (allDues a t).Pairwise fun p q => keyOf a p < keyOf a q := allDues_sorted fun s hs => by have := W.sum s hs; omega
/-- A frame of a tick. -/
theorem WinI.frame (W : WinI a k last made T) (hm : made ≤ 80) {i : Nat} {p : Nat × Nat} (h : (allDues a (T + 1))[i]? = some p) :
    p.1 < 3 ∧ p.2 < 4 ∧ (a.fl p.1).base + 1 + p.2 ≤ 80 ∧ ∃ x, (a.fl p.1).kept[p.2]? = some x ∧ x.1.size ≤ 20 ∧ lastN a (T + 1) last i p.1 ((a.fl p.1).base + 1 + p.2) = x.2 ∧ (x.2 = 0 ∨ x.2 + 4 ≤ T + 1) := by
  obtain ⟨h1, h2⟩ := allDues_mem.1 (List.mem_of_getElem? h)
  obtain ⟨h3, x, h4, h5⟩ := dues_mem h2
  have h6 := (List.getElem?_eq_some_iff.1 h4).1
  have := W.sum p.1 h1
  refine ⟨h1, h3, by omega, x, h4, W.bod p.1 h1 x (List.mem_of_getElem? h4), by rw [lastN_old (W.sorted hm _) h]; exact W.rcd p.1 h1 p.2 x h4, ?_⟩
  unfold Mod.due at h5
  simp at h5
  exact h5.2.imp id fun h => by omega
theorem WinI.tick_yes (W : WinI a k last made T) (hw : a.welcome = true) : WinI a.tick.1 k (lastN a (T + 1) last (allDues a (T + 1)).length) made (T + 1) := by
  rw [tick_send W.fen hw, W.tk]
  have hfl : ∀ s, s < 3 → (tickAg a (T + 1) 3).fl s = { a.fl s with kept := (Mod.sendTo a.epoch s (a.fl s) (T + 1) 4).1 } := fun s hs => by
    unfold tickAg Mod.sendFl
    simp only
    rw [if_pos hs]
  have hin : ∀ s, s < 3 → ∀ j, (∃ p ∈ (allDues a (T + 1)).take (allDues a (T + 1)).length, p.1 = s ∧ (a.fl s).base + 1 + p.2 = (a.fl s).base + 1 + j) ↔ j ∈ dues (a.fl s) (T + 1) 4 := fun s hs j => by
    rw [List.take_length]
    constructor
    · rintro ⟨p, h1, rfl, h3⟩
      have := (allDues_mem.1 h1).2
      have e : p.2 = j := by omega
      rw [← e]
      exact this
    · intro h
      exact ⟨(s, j), allDues_mem.2 ⟨hs, h⟩, rfl, rfl⟩
  refine ⟨W.ep, W.fen, rfl, fun s hs => ?_, fun s hs x hx => ?_, fun s hs j x hx => ?_, fun s hs q hq => ?_, fun h => (by rw [show (tickAg a (T + 1) 3).welcome = a.welcome from rfl, hw] at h; cases h), fun _ => W.yes hw, W.ske, fun s hs q => ?_⟩
  · rw [hfl s hs]
    simp only [sendTo_len]
    exact W.sum s hs
  · rw [hfl s hs] at hx
    obtain ⟨y, hy, h1, _⟩ := sendTo_mem _ _ _ _ _ x hx
    rw [h1]
    exact W.bod s hs y hy
  · rw [hfl s hs] at hx ⊢
    simp only at hx ⊢
    rw [sendTo_marks] at hx
    obtain ⟨y, hy, e⟩ := Option.map_eq_some_iff.1 hx
    have hi := hin s hs j
    unfold lastN
    by_cases hd : j ∈ dues (a.fl s) (T + 1) 4
    · rw [if_pos (hi.2 hd)]
      rw [if_pos hd] at e
      rw [← e]
    · rw [if_neg (fun h => hd (hi.1 h)), W.rcd s hs j y hy]
      rw [if_neg hd] at e
      rw [e]
  · rw [hfl s hs] at hq
    simp only [sendTo_len] at hq
    unfold lastN
    rw [if_neg, W.new s hs q hq]
    rintro ⟨p, h1, rfl, h3⟩
    rw [List.take_length] at h1
    obtain ⟨_, x, h4, _⟩ := dues_mem (allDues_mem.1 h1).2
    have h6 := (List.getElem?_eq_some_iff.1 h4).1
    omega
  · unfold lastN
    split
    · exact Nat.le_refl _
    · exact Nat.le_succ_of_le (W.big s hs q)
theorem WinI.drop (W : WinI a k last made T) (n : Nat → Nat) (hn : ∀ s, n s ≤ (a.fl s).kept.length) : WinI (a.drop n) k last made T := by
  have hfl : ∀ s, s < 3 → (a.drop n).fl s = { a.fl s with base := (a.fl s).base + n s, kept := (a.fl s).kept.drop (n s) } := fun s hs => by
    simp only [Mod.Ag.drop, Mod.dropTo, if_pos hs, Mod.Flow.drop]
  refine ⟨W.ep, W.fen, W.tk, fun s hs => ?_, fun s hs x hx => ?_, fun s hs j x hx => ?_, fun s hs q hq => ?_, W.no, W.yes, W.ske, W.big⟩
  · rw [hfl s hs]
    have := W.sum s hs
    have := hn s
    simp only [List.length_drop]
    omega
  · rw [hfl s hs] at hx
    exact W.bod s hs x (List.mem_of_mem_drop hx)
  · rw [hfl s hs] at hx ⊢
    simp only [List.getElem?_drop] at hx ⊢
    have := W.rcd s hs (n s + j) x hx
    rw [← this]
    congr 1
    omega
  · rw [hfl s hs] at hq
    have := hn s
    simp only [List.length_drop] at hq
    exact W.new s hs q (by omega)
theorem WinI.held (W : WinI a k last made T) (s : Nat) (h : List Nat) : WinI { a with fl := Mod.upd a.fl s { a.fl s with held := h } } k last made T := by
  have e : ∀ t, (Mod.upd a.fl s { a.fl s with held := h } t).kept = (a.fl t).kept ∧ (Mod.upd a.fl s { a.fl s with held := h } t).base = (a.fl t).base := fun t => by
    unfold Mod.upd
    split
    · rename_i e; rw [e]; exact ⟨rfl, rfl⟩
    · exact ⟨rfl, rfl⟩
  refine ⟨W.ep, W.fen, W.tk, fun t ht => ?_, fun t ht x hx => ?_, fun t ht j x hx => ?_, fun t ht q hq => ?_, W.no, W.yes, W.ske, W.big⟩
  · show (Mod.upd a.fl s _ t).base + (Mod.upd a.fl s _ t).kept.length ≤ _
    rw [(e t).1, (e t).2]
    exact W.sum t ht
  · have hx : x ∈ (Mod.upd a.fl s { a.fl s with held := h } t).kept := hx
    rw [(e t).1] at hx
    exact W.bod t ht x hx
  · have hx : (Mod.upd a.fl s { a.fl s with held := h } t).kept[j]? = some x := hx
    rw [(e t).1] at hx
    show last t ((Mod.upd a.fl s { a.fl s with held := h } t).base + 1 + j) = _
    rw [(e t).2]
    exact W.rcd t ht j x hx
  · have hq : (Mod.upd a.fl s { a.fl s with held := h } t).base + (Mod.upd a.fl s { a.fl s with held := h } t).kept.length < q := hq
    rw [(e t).1, (e t).2] at hq
    exact W.new t ht q hq
/-- An Ack comes. -/
theorem WinI.ack (W : WinI a k last made T) (hw : a.welcome = true) (st q : Int) (b : ByteArray) : WinI (a.deliver 4 1 st q b) k last made T ∧ (a.deliver 4 1 st q b).welcome = true := by
  have hd := W.drop (a.says 4 1 st q b) (fun s => says_le a 4 1 st q b s)
  unfold Mod.Ag.deliver
  rw [if_neg (by omega), if_neg (by rw [W.ep]; simp), if_neg (by omega), if_neg (by omega), if_pos rfl]
  split
  · exact ⟨W, hw⟩
  · exact ⟨hd.held _ _, hw⟩
/-- A Welcome comes to an agent that isn't welcome. -/
theorem WinI.wel (W : WinI a k last made T) (hw : a.welcome = false) (hk : k.epoch = 1) (b : ByteArray) : WinI (a.deliver 2 1 0 0 b) k last made T := by
  have hd := W.drop (a.says 2 1 0 0 b) (fun s => says_le a 2 1 0 0 b s)
  unfold Mod.Ag.deliver
  rw [if_neg (by omega), if_neg (by rw [W.ep]; simp), if_neg (by omega), if_pos rfl]
  generalize a.drop (a.says 2 1 0 0 b) = a1 at hd
  have e : ∀ s, s < 3 → Mod.fresh a1.fl 3 s = { a1.fl s with kept := (a1.fl s).kept.map fun r => (r.1, 0), held := [] } := fun s hs => by
    unfold Mod.fresh
    rw [if_pos hs]
  have hno : ∀ s, s < 3 → ∀ q, last s q = 0 := W.no hw
  refine ⟨hd.ep, hd.fen, hd.tk, fun s hs => ?_, fun s hs x hx => ?_, fun s hs j x hx => ?_, fun s hs q _ => hno s hs q, fun _ => hno, fun _ => hk, hd.ske, hd.big⟩
  · show (Mod.fresh a1.fl 3 s).base + (Mod.fresh a1.fl 3 s).kept.length ≤ _
    rw [e s hs]
    simp only [List.length_map]
    exact hd.sum s hs
  · have hx : x ∈ (Mod.fresh a1.fl 3 s).kept := hx
    rw [e s hs] at hx
    obtain ⟨y, hy, rfl⟩ := List.mem_map.1 hx
    exact hd.bod s hs y hy
  · have hx : (Mod.fresh a1.fl 3 s).kept[j]? = some x := hx
    rw [e s hs] at hx
    simp only [List.getElem?_map] at hx
    obtain ⟨y, hy, rfl⟩ := Option.map_eq_some_iff.1 hx
    exact hno s hs _
theorem WinI.sink (W : WinI a k last made T) {k' : Mod.Sk} (h : k'.epoch = 1) : WinI a k' last made T := ⟨W.ep, W.fen, W.tk, W.sum, W.bod, W.rcd, W.new, W.no, fun _ => h, by omega, W.big⟩
end
end Go.Proofs.YtamafdcnbcoegaaGreat
namespace Go.Proofs.YtamafdcnbcoegaaGreat
section
variable {a : Mod.Ag} {k : Mod.Sk} {last : Nat → Nat → Nat} {made T : Nat}
/-- A Hello comes. -/
theorem WinI.hello (W : WinI a k last made T) (G : SkGood k) (hw : a.welcome = false) : ∃ r, skSays k (Wire.bytes 1 ((1 : Nat) : Int) 0 0 []) = (0, helloIt k 1, [r]) ∧ WinI a (helloIt k 1) last made T ∧ WinI (agSays a r.data.toList).2 (helloIt k 1) last made T := by
  refine ⟨skWel k 1, ?_, W.sink rfl, ?_⟩
  · rw [hello_bytes, skSays_bytes k (proper_hello (by omega))]
    unfold skReply
    have := W.ske
    rw [if_pos rfl, if_neg (by omega)]
    rfl
  · have hl : ∀ i, i < 3 → (k.logs i).length ≤ 2147483647 := fun i hi => by have := skGood_log G hi; omega
    have := agSays_bytes a (k := 2) (e := 1) (s := 0) (q := 0) (b := welB k) (welB_proper k 1 (by omega) hl)
    have e : agSays a (skWel k 1).data.toList = (0, a.deliver 2 1 0 0 (welB k)) := by simpa [skWel] using this
    rw [e]
    exact (W.sink (k' := helloIt k 1) rfl).wel hw rfl _
/-- A Data comes. -/
theorem WinI.data (W : WinI a k last made T) (G : SkGood k) (hw : a.welcome = true) {s q : Nat} {b : ByteArray} (hs : s < 3) (h0 : 0 < q) (hq : q ≤ 80) (hb : b.size ≤ 20) :
    ∃ r, skSays k (Wire.bytes 3 ((1 : Nat) : Int) s (q : Nat) b.data.toList) = (0, skAfter k 3 1 s q b, [r]) ∧ WinI a (skAfter k 3 1 s q b) last made T ∧ a.welcome = true ∧ WinI (agSays a r.data.toList).2 (skAfter k 3 1 s q b) last made T ∧ (agSays a r.data.toList).2.welcome = true := by
  have hk := W.yes hw
  have hae := skAfter_ep k 3 1 s q b
  have hp : Wire.proper 3 (1 : Nat) s q b = true := proper_data (by omega) hs h0 (by omega) hb
  have hsk := W.sink (k' := skAfter k 3 1 s q b) (by rw [hae, hk])
  have hrep : skReply k 3 1 s q b = (skAfter k 3 1 s q b, [skAck k 3 1 s q b]) := by
    unfold skReply
    rw [if_neg (by omega), if_pos rfl, if_pos (by rw [hk]; rfl)]
  have G2 : SkGood (skAfter k 3 1 s q b) := by
    have := skGood_reply G 3 1 s q b hs (by omega)
    rw [hrep] at this
    exact this
  have hap : Wire.proper 4 (1 : Nat) s ((skAfter k 3 1 s q b).logs s).length (ackBody (skAfter k 3 1 s q b) s ((skAfter k 3 1 s q b).logs s).length) = true := by
    have := ack_proper (a := skAfter k 3 1 s q b) (s := s) (up := ((skAfter k 3 1 s q b).logs s).length) (by rw [hae, hk]; omega) hs (by have := skGood_log G2 hs; omega)
    rw [hae, hk] at this
    exact this
  have h2 := agSays_bytes a hap
  have e : (skAck k 3 1 s q b).data.toList = Wire.bytes 4 (1 : Nat) s ((skAfter k 3 1 s q b).logs s).length (ackBody (skAfter k 3 1 s q b) s ((skAfter k 3 1 s q b).logs s).length).data.toList := by
    unfold skAck
    rw [hk]
  refine ⟨skAck k 3 1 s q b, ?_, hsk, hw, ?_⟩
  · rw [skSays_bytes k hp]
    show (0, skReply k 3 1 s q b) = _
    rw [hrep]
  · rw [e, h2]
    exact hsk.ack hw _ _ _
end
/-- A frame of a tick: a Data. -/
def FrData (a1 : Mod.Ag) (T : Nat) (l : List UInt8) (at0 at1 : Nat) (l0 l1 : Nat → Nat → Nat) : Prop :=
  a1.welcome = true ∧ ∃ (s q j : Nat) (b : ByteArray), s < 3 ∧ 0 < q ∧ q ≤ 80 ∧ j < 4 ∧ b.size ≤ 20 ∧ l = Wire.bytes 3 ((1 : Nat) : Int) s (q : Nat) b.data.toList ∧ (agSpools a1 s)[j]? = some b ∧ at0 < s * 1000 + q ∧ (l0 s q = 0 ∨ l0 s q + 4 ≤ T + 1) ∧ at1 = s * 1000 + q ∧ l0 s q ≤ T ∧ ∀ s' q', l1 s' q' = if s' = s ∧ q' = q then T + 1 else l0 s' q'
/-- .. or the Hello. -/
def FrHello (a1 : Mod.Ag) (n : Nat) (l : List UInt8) (at0 at1 : Nat) (l0 l1 : Nat → Nat → Nat) : Prop := a1.welcome = false ∧ n = 1 ∧ l = Wire.bytes 1 ((1 : Nat) : Int) 0 0 [] ∧ at1 = at0 ∧ l1 = l0
/-- The number ahead of a frame. -/
def atW (a : Mod.Ag) (t : Nat) : Nat → Nat
  | 0 => 0
  | i + 1 => match (allDues a t)[i]? with
    | some p => keyOf a p
    | none => 0
theorem atW_lt {a : Mod.Ag} {t : Nat} (hs : (allDues a t).Pairwise fun p q => keyOf a p < keyOf a q) {i : Nat} {p : Nat × Nat} (h : (allDues a t)[i]? = some p) : atW a t i < keyOf a p := by
  cases i with
  | zero => show 0 < _; unfold keyOf; omega
  | succ i =>
    rw [atW]
    have h1 := (List.getElem?_eq_some_iff.1 h).1
    have h2 : (allDues a t)[i]? = some (allDues a t)[i] := List.getElem?_eq_getElem (by omega)
    rw [h2]
    exact key_lt hs h2 h (by omega)
/-- A tick's frames, one by one. -/
theorem WinI.view {a : Mod.Ag} {k : Mod.Sk} {last : Nat → Nat → Nat} {made T : Nat} (W : WinI a k last made T) (hm : made ≤ 80) :
    ∃ (an : Nat → Nat) (lst : Nat → Nat → Nat → Nat), an 0 = 0 ∧ lst 0 = last ∧ WinI a.tick.1 k (lst a.tick.2.length) made (T + 1) ∧
      ∀ i (h : i < a.tick.2.length), FrHello a.tick.1 a.tick.2.length a.tick.2[i] (an i) (an (i + 1)) (lst i) (lst (i + 1)) ∨ FrData a.tick.1 T a.tick.2[i] (an i) (an (i + 1)) (lst i) (lst (i + 1)) := by
  cases hw : a.welcome with
  | false =>
    obtain ⟨h1, h2⟩ := W.tick_no hw
    rw [h1]
    refine ⟨fun _ => 0, fun _ => last, rfl, rfl, h2, fun i hi => .inl ⟨hw, rfl, ?_, rfl, rfl⟩⟩
    have : i = 0 := by simpa using hi
    subst this
    simp [W.ep]
  | true =>
    have h2 := W.tick_yes hw
    have h1 := tick_send W.fen hw
    have hn : a.tick.2 = (allDues a (T + 1)).map fun p => Wire.bytes 3 ((1 : Nat) : Int) p.1 ((a.fl p.1).base + 1 + p.2 : Nat) (((a.fl p.1).kept.getD p.2 (⟨#[]⟩, 0)).1.data.toList) := by
      rw [h1]
      show Mod.sendOut a.epoch (a.ticks + 1) a.fl 3 = _
      rw [W.tk, sendOut_all, W.ep]
    have hl : a.tick.2.length = (allDues a (T + 1)).length := by rw [hn, List.length_map]
    refine ⟨atW a (T + 1), lastN a (T + 1) last, rfl, lastN_zero _ _ _, by rw [hl]; exact h2, fun i hi => .inr ?_⟩
    rw [hl] at hi
    have hp : (allDues a (T + 1))[i]? = some (allDues a (T + 1))[i] := List.getElem?_eq_getElem hi
    obtain ⟨p1, p2, p3, x, p4, p5, p6, p7⟩ := W.frame hm hp
    have hat := atW_lt (W.sorted hm (T + 1)) hp
    have hsu := lastN_succ (last := last) hp
    have hat1 : atW a (T + 1) (i + 1) = keyOf a (allDues a (T + 1))[i] := by rw [atW, hp]
    have hbig := W.rcd _ p1 _ x p4
    have hbig2 := W.big _ p1 ((a.fl (allDues a (T + 1))[i].1).base + 1 + (allDues a (T + 1))[i].2)
    have hget : a.tick.2[i]'(by rw [hl]; exact hi) = Wire.bytes 3 ((1 : Nat) : Int) (allDues a (T + 1))[i].1 ((a.fl (allDues a (T + 1))[i].1).base + 1 + (allDues a (T + 1))[i].2 : Nat) x.1.data.toList := by
      simp only [hn, List.getElem_map, List.getD_eq_getElem?_getD, p4]
      rfl
    generalize (allDues a (T + 1))[i] = p at *
    refine ⟨by rw [h1]; exact hw, p.1, (a.fl p.1).base + 1 + p.2, p.2, x.1, p1, by omega, p3, p2, p5, hget, ?_, hat, by rw [p6]; exact p7, hat1, by rw [p6, ← hbig]; exact hbig2, fun s' q' => ?_⟩
    · rw [h1]
      unfold agSpools Mod.Ag.spool tickAg Mod.sendFl
      rw [if_pos (by omega)]
      simp only [Int.toNat_natCast, if_pos p1, List.getElem?_map]
      rw [sendTo_marks, p4]
      simp only [Option.map_some]
      split <;> rfl
    · rw [hsu]
      by_cases e : s' = p.1 ∧ q' = (a.fl p.1).base + 1 + p.2
      · rw [if_pos e, if_pos ⟨e.1.symm, by rw [e.1]; exact e.2.symm⟩]
      · rw [if_neg e, if_neg (fun h => e ⟨h.1.symm, by rw [← h.2, h.1]⟩)]
/-- What stands of a tick's frames: the first i have been told the sink. -/
def TellI (made T : Nat) (wl : Bool) (i : Nat) (a : Mod.Ag) (k : Mod.Sk) (last : Nat → Nat → Nat) : Prop := WinI a k last made T ∧ SkGood k ∧ (wl = true → a.welcome = true) ∧ (wl = false → i = 0 → a.welcome = false)
theorem TellI.step {made T T' i n : Nat} {a1 a : Mod.Ag} {k : Mod.Sk} {last l0 l1 : Nat → Nat → Nat} {l : List UInt8} {at0 at1 : Nat} (h : TellI made T a1.welcome i a k last) (hi : i < n) (hv : FrHello a1 n l at0 at1 l0 l1 ∨ FrData a1 T' l at0 at1 l0 l1) :
    ∃ r k', skSays k l = (0, k', [r]) ∧ TellI made T a1.welcome (i + 1) a k' last ∧ TellI made T a1.welcome (i + 1) (agSays a r.data.toList).2 k' last := by
  obtain ⟨W, G, h1, h2⟩ := h
  have G2 := skGood_says G l
  rcases hv with ⟨hw, hn, rfl, _, _⟩ | ⟨hw, s, q, j, b, hs, hq0, hq, hj, hb, rfl, _⟩
  · obtain ⟨r, e, W1, W2⟩ := W.hello G (h2 hw (by omega))
    rw [e] at G2
    exact ⟨r, _, e, ⟨W1, G2, fun e => (by rw [hw] at e; cases e), fun _ e => (by omega)⟩, ⟨W2, G2, fun e => (by rw [hw] at e; cases e), fun _ e => (by omega)⟩⟩
  · obtain ⟨r, e, W1, w1, W2, w2⟩ := W.data G (h1 hw) hs hq0 hq hb
    rw [e] at G2
    exact ⟨r, _, e, ⟨W1, G2, fun _ => w1, fun e => (by rw [hw] at e; cases e)⟩, ⟨W2, G2, fun _ => w2, fun e => (by rw [hw] at e; cases e)⟩⟩
end Go.Proofs.YtamafdcnbcoegaaGreat
namespace Go.Proofs.YtamafdcnbcoegaaGreat
open Go.RowKit
theorem keepDecode_of (v : Value) (k e s q : Int) (b : ByteArray) (w : World) (hp : Wire.proper k e s q b = true) (h : BytesAt w v (Wire.bytes k e s q b.data.toList)) :
    Calls Tryz.prog 25 #[v] w fun r w' => r = .returned (.tuple #[.agg #[.int .i64 k, .int .i64 e, .int .i64 s, .int .i64 q, .string b], .int .i64 0]) ∧ Below w.heap.size w w' := by
  obtain ⟨h1, h2, h3, h4, h5⟩ := proper_small hp
  obtain ⟨p0, p1, p2, p3, p4, p5⟩ := Wire.parts_bytes (b := b) (k := k) (e := e) (s := s) (q := q) (by omega) (by omega) (by omega) (by omega) (by omega)
  have := courier_Decode_any v _ w h
  have hr : Wire.reads (Wire.bytes k e s q b.data.toList) = true := by unfold Wire.reads; rw [p0, p1, p2, p3, p4, p5, hp]; rfl
  rw [hr, if_pos rfl] at this
  unfold frVal at this
  rw [p1, p2, p3, p4, p5] at this
  exact this
/-- The ticks at which records were sent last, in memory. -/
def LastAt (x : World) (g : Nat) (last : Nat → Nat → Nat) : Prop := ∃ cs : Array Value, x.heap[g]? = some (.cells cs 33 (0, 0)) ∧ cs.size = 300 ∧ ∀ s q, s < 3 → q < 100 → cs[s * 100 + q]? = some (.int .i64 (last s q))
theorem zero33 : Tryz.zeroCells33.toList = List.replicate 300 (.int .i64 0) := by kernel_rfl
theorem lastAt_zero {x : World} : LastAt (x.alloc (.cells Tryz.zeroCells33 33)) x.heap.size (fun _ _ => 0) := by
  refine ⟨_, heap_alloc_new x _, ?_, fun s q hs hq => ?_⟩
  · rw [← Array.length_toList, zero33, List.length_replicate]
  · rw [← Array.getElem?_toList, zero33, List.getElem?_replicate, if_pos (by omega)]
    rfl
theorem LastAt.far {x y : World} {g : Nat} {last : Nat → Nat → Nat} {E : Nat → Prop} (h : LastAt x g last) (hF : Far E x y) (hE : ¬ E g) : LastAt y g last := by
  obtain ⟨cs, h1, h2, h3⟩ := h
  exact ⟨cs, (hF.rest g (lt_of_block h1) hE).trans h1, h2, h3⟩
theorem LastAt.below {x y : World} {g : Nat} {last : Nat → Nat → Nat} (h : LastAt x g last) (hb : Below x.heap.size x y) : LastAt y g last := h.far (far_below (E := fun _ => False) hb) (fun e => e)
theorem LastAt.lt {x : World} {g : Nat} {last : Nat → Nat → Nat} (h : LastAt x g last) : g < x.heap.size := by obtain ⟨cs, h1, _⟩ := h; exact lt_of_block h1
theorem LastAt.cell {x : World} {g : Nat} {last : Nat → Nat → Nat} (h : LastAt x g last) {s q : Nat} (hs : s < 3) (hq : q < 100) : x.cell? ⟨g, s * 100 + q, none⟩ = some (.int .i64 (last s q)) := by
  obtain ⟨cs, h1, _, h3⟩ := h
  rw [← h3 s q hs hq]
  exact blk_cell h1
theorem LastAt.set {x : World} {g : Nat} {l0 l1 : Nat → Nat → Nat} (h : LastAt x g l0) {s q t : Nat} (hs : s < 3) (hq : q < 100) (hl : ∀ s' q', l1 s' q' = if s' = s ∧ q' = q then t else l0 s' q') : LastAt (x.setCell ⟨g, s * 100 + q, none⟩ (.int .i64 t)) g l1 := by
  obtain ⟨cs, h1, h2, h3⟩ := h
  refine ⟨_, blk_set h1, by simp [h2], fun s' q' hs' hq' => ?_⟩
  rw [Array.getElem?_setIfInBounds, hl]
  by_cases e : s' = s ∧ q' = q
  · obtain ⟨rfl, rfl⟩ := e
    rw [if_pos rfl, if_pos (by omega), if_pos ⟨rfl, rfl⟩]
  · rw [if_neg (by omega), if_neg e]
    exact h3 s' q' hs' hq'
theorem LastAt.free {x : World} {g : Nat} {last : Nat → Nat → Nat} (h : LastAt x g last) (i : Nat) : x.frozen? ⟨g, i, none⟩ = false := by obtain ⟨cs, h1, _⟩ := h; exact blk_free h1
/-- The bodies of the loops in a code, outermost first. -/
def loopsIn : Code → List Code
  | .loop c => c :: loopsIn c
  | .seq a b => loopsIn a ++ loopsIn b
  | .block _ c => loopsIn c
  | .scope c => loopsIn c
  | .cond _ a b => loopsIn a ++ loopsIn b
  | _ => []
noncomputable def winBodies : List Code := (Tryz.f7.body.map loopsIn).getD []
noncomputable def winBodyC : Code := winBodies[2]?.getD .skip
noncomputable def winBodyE : Code := winBodies[4]?.getD .skip
end Go.Proofs.YtamafdcnbcoegaaGreat
namespace Go.Proofs.YtamafdcnbcoegaaGreat
open Go.RowKit
set_option maxRecDepth 1000000 in
set_option maxHeartbeats 32000000 in
theorem win_data {top : Nat} (C : AgentC top) (D : SinkC) (N0 M va vs g T nf gl lcap fl vcap i s q j an0 : Nat) (vad : Option Addr) (y wr : World) (a1 : Mod.Ag) (k : Mod.Sk) (G : Nat → Prop) (l0 l1 : Nat → Nat → Nat) (b : ByteArray) (HE : Hid (Ends C D N0 M y va vs a1 k G)) (hG : Hid (G g)) (hSl : (agSpools a1 (s : Int)).length ≤ 80) (hil : i < nf) (hsm : nf ≤ 12) (cj : wr.cell? ⟨gl, i, none⟩ = some (.slice vad fl vcap)) (hat : Hid (BytesAt wr (.slice vad fl vcap) (Wire.bytes 3 ((1 : Nat) : Int) (s : Nat) (q : Nat) b.data.toList))) (HF : Hid (Far (fun j => j = g) y wr)) (HLA : Hid (LastAt wr g l0)) (hTi : (T : Int) + 1 < 30) (hs : s < 3) (hq0 : 0 < q) (hq : q ≤ 80) (hj : j < 4) (hb : b.size ≤ 20) (hsp : (agSpools a1 (s : Int))[j]? = some b) (hat0 : an0 < s * 1000 + q) (hdue : l0 s q = 0 ∨ l0 s q + 4 ≤ T + 1) (hltT : l0 s q ≤ T) (hls : Hid (∀ s' q', l1 s' q' = if s' = s ∧ q' = q then T + 1 else l0 s' q')) (u4 u15 u16 u17 u18 u19 u67 u68 u69 u70 u71 u72 u73 u74 u75 u76 u77 u78 u79 u80 u81 u82 u83 u84 u85 u86 u87 u88 u89 u90 u91 u92 u93 u94 u95 u96 u97 u98 u99 u100 u101 u102 u103 u104 u105 u106 u107 u108 u109 u110 u111 u112 u113 u114 u115 u116 u117 u118 u119 u120 u121 u122 u123 u124 u125 u126 u127 u128 u129 u130 u131 u132 u133 u134 u135 u136 u137 u138 u139 u140 u141 u142 u143 u144 u145 u146 u147 u148 u149 u150 u151 u152 u153 u154 u155 u156 u157 u158 u159 u160 u161 u162 u163 u164 u165 u166 u167 u168 u169 u170 u171 u172 u173 u174 u175 u176 u177 c0 c1 c2 c3 c7 c9 c11 c20 c21 c22 c23 c24 c25 c26 c27 c28 c29 c30 c31 c32 c33 c34 c35 c36 c37 c38 c39 c40 c41 c42 c43 c44 c45 c46 c47 c48 c49 c50 c51 c52 c53 c54 c55 c56 c57 c58 c59 c60 c61 c62 c63 c64 c65 c66 c178 c179 c180 c181 c182 c183 c184 c185 c186 c187 c188 c189 c190 c191 c192 c193 c194 c195 c196 c197 c198 c199 c200 c201 c202 c203 c204 c205 c206 c207 c208 c209 c210 : Value) (R : Act → World → Prop) (Q0 : Exit → Act → World → Prop) (HEND : Hid (∀ (t4 t15 t16 t17 t18 t19 t67 t68 t69 t70 t71 t72 t73 t74 t75 t76 t77 t78 t79 t80 t81 t82 t83 t84 t85 t86 t87 t88 t89 t90 t91 t92 t93 t94 t95 t96 t97 t98 t99 t100 t101 t102 t103 t104 t105 t106 t107 t108 t109 t110 t111 t112 t113 t114 t115 t116 t117 t118 t119 t120 t121 t122 t123 t124 t125 t126 t127 t128 t129 t130 t131 t132 t133 t134 t135 t136 t137 t138 t139 t140 t141 t142 t143 t144 t145 t146 t147 t148 t149 t150 t151 t152 t153 t154 t155 t156 t157 t158 t159 t160 t161 t162 t163 t164 t165 t166 t167 t168 t169 t170 t171 t172 t173 t174 t175 t176 t177 v13 v14 : Value) (w' : World), v13 = .int .i64 ((s * 1000 + q : Nat) : Int) → v14 = .int .i64 ((i + 1 : Nat) : Int) → Far (fun j => j = g) y w' → LastAt w' g l1 → R ⟨List.toArray (c0 :: c1 :: c2 :: c3 :: t4 :: .pointer (some ⟨va, 0, none⟩) :: .pointer (some ⟨vs, 0, none⟩) :: c7 :: .pointer (some ⟨g, 0, none⟩) :: c9 :: .int .i64 ((T : Int) + 1) :: c11 :: .slice (some ⟨gl, 0, none⟩) nf lcap :: v13 :: v14 :: t15 :: t16 :: t17 :: t18 :: t19 :: c20 :: c21 :: c22 :: c23 :: c24 :: c25 :: c26 :: c27 :: c28 :: c29 :: c30 :: c31 :: c32 :: c33 :: c34 :: c35 :: c36 :: c37 :: c38 :: c39 :: c40 :: c41 :: c42 :: c43 :: c44 :: c45 :: c46 :: c47 :: c48 :: c49 :: c50 :: c51 :: c52 :: c53 :: c54 :: c55 :: c56 :: c57 :: c58 :: c59 :: c60 :: c61 :: c62 :: c63 :: c64 :: c65 :: c66 :: t67 :: t68 :: t69 :: t70 :: t71 :: t72 :: t73 :: t74 :: t75 :: t76 :: t77 :: t78 :: t79 :: t80 :: t81 :: t82 :: t83 :: t84 :: t85 :: t86 :: t87 :: t88 :: t89 :: t90 :: t91 :: t92 :: t93 :: t94 :: t95 :: t96 :: t97 :: t98 :: t99 :: t100 :: t101 :: t102 :: t103 :: t104 :: t105 :: t106 :: t107 :: t108 :: t109 :: t110 :: t111 :: t112 :: t113 :: t114 :: t115 :: t116 :: t117 :: t118 :: t119 :: t120 :: t121 :: t122 :: t123 :: t124 :: t125 :: t126 :: t127 :: t128 :: t129 :: t130 :: t131 :: t132 :: t133 :: t134 :: t135 :: t136 :: t137 :: t138 :: t139 :: t140 :: t141 :: t142 :: t143 :: t144 :: t145 :: t146 :: t147 :: t148 :: t149 :: t150 :: t151 :: t152 :: t153 :: t154 :: t155 :: t156 :: t157 :: t158 :: t159 :: t160 :: t161 :: t162 :: t163 :: t164 :: t165 :: t166 :: t167 :: t168 :: t169 :: t170 :: t171 :: t172 :: t173 :: t174 :: t175 :: t176 :: t177 :: c178 :: c179 :: c180 :: c181 :: c182 :: c183 :: c184 :: c185 :: c186 :: c187 :: c188 :: c189 :: c190 :: c191 :: c192 :: c193 :: c194 :: c195 :: c196 :: c197 :: c198 :: c199 :: c200 :: c201 :: c202 :: c203 :: c204 :: c205 :: c206 :: c207 :: c208 :: c209 :: c210 :: []), []⟩ w')) :
    Code.wp Tryz.prog winBodyC (Exit.then R Q0) ⟨List.toArray (c0 :: c1 :: c2 :: c3 :: u4 :: .pointer (some ⟨va, 0, none⟩) :: .pointer (some ⟨vs, 0, none⟩) :: c7 :: .pointer (some ⟨g, 0, none⟩) :: c9 :: .int .i64 ((T : Int) + 1) :: c11 :: .slice (some ⟨gl, 0, none⟩) nf lcap :: .int .i64 (an0 : Nat) :: .int .i64 (i : Nat) :: u15 :: u16 :: u17 :: u18 :: u19 :: c20 :: c21 :: c22 :: c23 :: c24 :: c25 :: c26 :: c27 :: c28 :: c29 :: c30 :: c31 :: c32 :: c33 :: c34 :: c35 :: c36 :: c37 :: c38 :: c39 :: c40 :: c41 :: c42 :: c43 :: c44 :: c45 :: c46 :: c47 :: c48 :: c49 :: c50 :: c51 :: c52 :: c53 :: c54 :: c55 :: c56 :: c57 :: c58 :: c59 :: c60 :: c61 :: c62 :: c63 :: c64 :: c65 :: c66 :: u67 :: u68 :: u69 :: u70 :: u71 :: u72 :: u73 :: u74 :: u75 :: u76 :: u77 :: u78 :: u79 :: u80 :: u81 :: u82 :: u83 :: u84 :: u85 :: u86 :: u87 :: u88 :: u89 :: u90 :: u91 :: u92 :: u93 :: u94 :: u95 :: u96 :: u97 :: u98 :: u99 :: u100 :: u101 :: u102 :: u103 :: u104 :: u105 :: u106 :: u107 :: u108 :: u109 :: u110 :: u111 :: u112 :: u113 :: u114 :: u115 :: u116 :: u117 :: u118 :: u119 :: u120 :: u121 :: u122 :: u123 :: u124 :: u125 :: u126 :: u127 :: u128 :: u129 :: u130 :: u131 :: u132 :: u133 :: u134 :: u135 :: u136 :: u137 :: u138 :: u139 :: u140 :: u141 :: u142 :: u143 :: u144 :: u145 :: u146 :: u147 :: u148 :: u149 :: u150 :: u151 :: u152 :: u153 :: u154 :: u155 :: u156 :: u157 :: u158 :: u159 :: u160 :: u161 :: u162 :: u163 :: u164 :: u165 :: u166 :: u167 :: u168 :: u169 :: u170 :: u171 :: u172 :: u173 :: u174 :: u175 :: u176 :: u177 :: c178 :: c179 :: c180 :: c181 :: c182 :: c183 :: c184 :: c185 :: c186 :: c187 :: c188 :: c189 :: c190 :: c191 :: c192 :: c193 :: c194 :: c195 :: c196 :: c197 :: c198 :: c199 :: c200 :: c201 :: c202 :: c203 :: c204 :: c205 :: c206 :: c207 :: c208 :: c209 :: c210 :: []), []⟩ wr := by
  conv => arg 2; whnf
  have hjn : (i : Int) < (nf : Int) := by omega
  have hj0 : (0 : Int) ≤ (i : Int) := by omega
  have HDC : Hid (Calls Tryz.prog 25 #[.slice vad fl vcap] wr fun r w' => r = .returned (.tuple #[.agg #[.int .i64 3, .int .i64 1, .int .i64 s, .int .i64 q, .string b], .int .i64 0]) ∧ Below wr.heap.size wr w') := keepDecode_of _ 3 1 s q b _ (proper_data (e := 1) (by omega) hs hq0 (by omega) hb) (unhide hat)
  have HM := hide hls
  clear hat hls
  go_upto_region 22 with (go_at_call 25; refine (unhide HDC).mono ?_; rintro r y2 ⟨rfl, hy2⟩; have HF2 := hide ((unhide HF).trans (far_below (E := fun _ => False) hy2) (fun _ _ e => e.elim)); have HL2 := hide ((unhide HLA).below hy2); clear hy2)
  obtain ⟨fb, hfb⟩ : ∃ fb, fb = y2.heap.size := ⟨_, rfl⟩
  rw [← hfb]
  refine wp_world (fun x => Far (fun j => j = g) y x ∧ LastAt x g l0 ∧ FrBox x fb 3 1 s q b ∧ fb < x.heap.size ∧ g ≠ fb) ?_ ?_
  · have hb2 := (Below.refl y2.heap.size y2).alloc (Nat.le_refl _) (.cells #[.int .i64 3, .int .i64 1, .int .i64 (s : Nat), .int .i64 (q : Nat), .string b] 41)
    have hgl2 := (unhide HL2).lt
    rw [hfb]
    exact ⟨(unhide HF2).trans (far_below (E := fun _ => False) hb2) (fun _ _ e => e.elim), (unhide HL2).below hb2, frBox_new _ _ _ _ _ _ _, by simp, by omega⟩
  clear hfb HF2 HL2 HDC HF HLA cj
  rintro x2 ⟨F2, L2, B2, l2, n2⟩
  have hEx := (unhide HE).far F2 (fun j e => .inl (by rw [e]; exact unhide hG))
  have HSPL := hide (hEx.spool (s : Int))
  obtain ⟨d0, d1, d2, d3, d4⟩ := B2
  have HB2 := hide (FrBox.mk d0 d1 d2 d3 d4)
  have HF2 := hide F2
  have HL2 := hide L2
  have HFB := hide (And.intro l2 n2)
  clear F2 L2 l2 n2 hEx d3 d4
  unfold ptrTo at HSPL
  go_upto_region 26 with (go_at_call 26; refine (unhide HSPL).mono ?_; rintro r y3 ⟨lvS, rfl, k1, _, k3⟩; have HOL := hide (outL k1); have HF3 := hide ((unhide HF2).trans (far_below (E := fun _ => False) k3) (fun _ _ e => e.elim)); have HL3 := hide ((unhide HL2).below k3); have HB3 := hide ((unhide HB2).below k3 (unhide HFB).1); have HSZ := hide k3.size; clear k1 k3)
  clear d0 d1 d2 HSPL HF2 HL2 HB2
  obtain ⟨sad, scap, rfl, hsc1, hsc2, hsc3⟩ := unhide HOL
  have hjl := (List.getElem?_eq_some_iff.1 hsp).1
  have HSP := hide hsp
  obtain ⟨SL, hSL⟩ : ∃ SL, SL = agSpools a1 (s : Int) := ⟨_, rfl⟩
  rw [← hSL] at HSP hsc1 hsc3 hjl hSl ⊢
  clear hSL hsp HOL
  obtain ⟨gS, oS, rfl, _, _, hSc⟩ := hsc3 (by omega)
  have HSC := hide hSc
  clear hSc
  go_upto_region 27 with fail
  go_cut [18, 19] from 67 to 177 (fun nv jv wx => nv = .int .i64 (-1) ∧ jv = .int .i64 0 ∧ wx = y3)
  case first =>
    go_wp2
    go_meet
    exact ⟨rfl, rfl, rfl⟩
  case rest =>
    obtain ⟨rfl, rfl, hw0⟩ := hcut
    obtain rfl : y3 = wc := hw0.symm
    rename_i K1 a1'
    refine a1' _ _ ?_
    clear a1'
    go_cut [18] from 67 to 177 (fun nv wx => ∃ (nn : Int) (dq : Nat), nv = .int .i64 nn ∧ 0 ≤ nn ∧ nn < 100 ∧ wx = y3.drewN dq)
    case first =>
      go_wp2
      go_loopw [18, 19] (fun nv jv wr4 => ∃ (jj dq : Nat) (nn : Int), jj ≤ 4 ∧ jj ≤ SL.length ∧ jv = .int .i64 jj ∧ nv = .int .i64 nn ∧ -1 ≤ nn ∧ nn < 100 ∧ (j < jj → 0 ≤ nn) ∧ wr4 = y3.drewN dq) (fun _ jv _ => 4 - (intOf jv).toNat)
      case atStart => exact ⟨0, 0, -1, by omega, by omega, rfl, rfl, by omega, by omega, fun h => by omega, rfl⟩
      case round =>
        obtain ⟨jj, dq, nn, hj4, hjS, rfl, rfl, hn1, hn2, hn3, rfl⟩ := hrel
        by_cases c1 : jj < SL.length
        · have i1 : (jj : Int) < (SL.length : Int) := by omega
          by_cases c2 : jj < 4
          · have i2 : (jj : Int) < 4 := by omega
            have i0 : (0 : Int) ≤ (jj : Int) := by omega
            have hx : (strs SL)[jj]? = some (.string SL[jj]) := by simp [strs, c1]
            have cS := ((unhide HSC) jj c1).trans hx
            have hak : Hid (SL[jj]? = some SL[jj]) := List.getElem?_eq_getElem c1
            have d4 := (unhide HB3).c4
            generalize SL[jj] = bj at cS hak
            clear hx
            by_cases he : bj = b
            · have hee : (bj.toList == b.toList) = true := by rw [he]; exact beq_self_eq_true _
              clear he
              go_wp2
              go_quiet (fail)
              go_wp2
              go_roundw
              case rel => exact ⟨jj + 1, dq + nq, jj, by omega, by omega, by go_num, rfl, by omega, by omega, fun _ => by omega, by simp⟩
              case measure => simp [intOf]; omega
            · have hee := str_eq_false he
              have hnj : j < jj + 1 → 0 ≤ nn := fun h => by
                by_cases e : j = jj
                · exfalso
                  have h1 := unhide HSP
                  rw [e, unhide hak] at h1
                  injection h1 with h1
                  exact he h1
                · exact hn3 (by omega)
              have HNJ := hide hnj
              clear he hnj hn3
              go_wp2
              go_quiet (fail)
              go_wp2
              go_roundw
              case rel => exact ⟨jj + 1, dq + nq, nn, by omega, by omega, by go_num, rfl, by omega, by omega, unhide HNJ, by simp⟩
              case measure => simp [intOf]; omega
          · have i2 : ¬ (jj : Int) < 4 := by omega
            have hn0 := hn3 (by omega)
            go_wp2
            go_meet
            exact ⟨nn, dq, rfl, hn0, hn2, rfl⟩
        · have i1 : ¬ (jj : Int) < (SL.length : Int) := by omega
          have hn0 := hn3 (by omega)
          go_wp2
          go_meet
          exact ⟨nn, dq, rfl, hn0, hn2, rfl⟩
    case rest =>
      obtain ⟨nn, dq, rfl, hn0, hn1, rfl⟩ := hcut
      have d2 := (unhide HB3).c2
      have d3 := (unhide HB3).c3
      have cL := (unhide HL3).cell hs (show q < 100 by omega)
      have b0 : ¬ nn < 0 := by omega
      have b1 : ¬ (100 : Int) ≤ (q : Int) := by omega
      have b2 : ¬ (s : Int) * 1000 + (q : Int) ≤ (an0 : Int) := by omega
      have w1 : IntKind.i64.wrap ((s : Int) * 1000) = (s : Int) * 1000 := by rw [IntKind.wrap_i64]; omega
      have w2 : IntKind.i64.wrap ((s : Int) * 1000 + (q : Int)) = (s : Int) * 1000 + (q : Int) := by rw [IntKind.wrap_i64]; omega
      have s0 : (0 : Int) ≤ (s : Int) := by omega
      have s3 : (s : Int) < 3 := by omega
      have q0 : (0 : Int) ≤ (q : Int) := by omega
      have q3 : (q : Int) < 100 := by omega
      obtain ⟨lz, hlz2⟩ : ∃ lz, lz = l0 s q := ⟨_, rfl⟩
      rw [← hlz2] at cL hdue hltT
      clear hlz2
      rcases Nat.eq_zero_or_pos lz with hl0 | hl0
      · have cL0 : y3.cell? ⟨g, s * 100 + q, none⟩ = some (.int .i64 0) := by rw [cL, hl0]; rfl
        clear cL hdue hltT hl0
        have cL := cL0
        clear cL0
        go_wp2
        have e0 : decide (nn < 0) = false := by simp; omega
        have e1 : decide ((100 : Int) ≤ (q : Int)) = false := by simp; omega
        have e1n : decide (100 ≤ q) = false := by simp; omega
        have e2 : decide ((s : Int) * 1000 + (q : Int) ≤ (an0 : Int)) = false := by simp; omega
        go_quiet (fail)
        go_upto_region 35 with fail
        refine wp_world (fun x => Far (fun j => j = g) y x ∧ LastAt x g l0 ∧ FrBox x fb 3 1 s q b ∧ fb < x.heap.size ∧ g ≠ fb) ?_ ?_
        · have hdr := below_drewN (Below.refl y3.heap.size y3) (dq + nq)
          have hfl := Nat.lt_of_lt_of_le (unhide HFB).1 (unhide HSZ)
          exact ⟨(unhide HF3).trans (far_below (E := fun _ => False) hdr) (fun _ _ e => e.elim), (unhide HL3).below hdr, (unhide HB3).below hdr hfl, Nat.lt_of_lt_of_le hfl hdr.size, (unhide HFB).2⟩
        clear cL d2 d3
        rintro x5 ⟨F5, L5, B5, l5, n5⟩
        have d2 := B5.c2
        have d3 := B5.c3
        have cL := L5.cell hs (show q < 100 by omega)
        have cf := L5.free (s * 100 + q)
        have HF5 := hide F5
        have HL5 := hide L5
        clear F5 L5 B5
        go_region
        go_wp2
        exact unhide HEND _ _ _ _ _ _ _ _ _ _ _ _ _ _ _ _ _ _ _ _ _ _ _ _ _ _ _ _ _ _ _ _ _ _ _ _ _ _ _ _ _ _ _ _ _ _ _ _ _ _ _ _ _ _ _ _ _ _ _ _ _ _ _ _ _ _ _ _ _ _ _ _ _ _ _ _ _ _ _ _ _ _ _ _ _ _ _ _ _ _ _ _ _ _ _ _ _ _ _ _ _ _ _ _ _ _ _ _ _ _ _ _ _ _ _ _ _ _ _ _ (by first | rfl | go_num) (by go_num) (((unhide HF5).trans (far_drewN (fun _ => False) x5 1) (fun _ _ e => e.elim)).trans (far_set _ _ _ _) (fun _ _ e => e)) (((unhide HL5).far (far_drewN (fun _ => False) x5 1) (fun e => e)).set hs (by omega) (unhide HM))
      · obtain ⟨li, hli⟩ : ∃ li : Int, li = (lz : Int) := ⟨_, rfl⟩
        rw [← hli] at cL
        have b3 : (0 : Int) < li := by omega
        have b4 : ¬ (T : Int) + 1 < li + 4 := by omega
        have w3 : IntKind.i64.wrap (li + 4) = li + 4 := by rw [IntKind.wrap_i64]; omega
        clear hdue hltT hl0 hli
        go_wp2
        have e0 : decide (nn < 0) = false := by simp; omega
        have e1 : decide ((100 : Int) ≤ (q : Int)) = false := by simp; omega
        have e1n : decide (100 ≤ q) = false := by simp; omega
        have e2 : decide ((s : Int) * 1000 + (q : Int) ≤ (an0 : Int)) = false := by simp; omega
        have e3 : decide ((0 : Int) < li) = true := by simp; exact b3
        have e4 : decide ((T : Int) + 1 < li + 4) = false := by simp; omega
        go_quiet (fail)
        go_upto_region 35 with fail
        refine wp_world (fun x => Far (fun j => j = g) y x ∧ LastAt x g l0 ∧ FrBox x fb 3 1 s q b ∧ fb < x.heap.size ∧ g ≠ fb) ?_ ?_
        · have hdr := below_drewN (Below.refl y3.heap.size y3) (dq + nq)
          have hfl := Nat.lt_of_lt_of_le (unhide HFB).1 (unhide HSZ)
          exact ⟨(unhide HF3).trans (far_below (E := fun _ => False) hdr) (fun _ _ e => e.elim), (unhide HL3).below hdr, (unhide HB3).below hdr hfl, Nat.lt_of_lt_of_le hfl hdr.size, (unhide HFB).2⟩
        clear cL d2 d3
        rintro x5 ⟨F5, L5, B5, l5, n5⟩
        have d2 := B5.c2
        have d3 := B5.c3
        have cL := L5.cell hs (show q < 100 by omega)
        have cf := L5.free (s * 100 + q)
        have HF5 := hide F5
        have HL5 := hide L5
        clear F5 L5 B5
        go_region
        go_wp2
        exact unhide HEND _ _ _ _ _ _ _ _ _ _ _ _ _ _ _ _ _ _ _ _ _ _ _ _ _ _ _ _ _ _ _ _ _ _ _ _ _ _ _ _ _ _ _ _ _ _ _ _ _ _ _ _ _ _ _ _ _ _ _ _ _ _ _ _ _ _ _ _ _ _ _ _ _ _ _ _ _ _ _ _ _ _ _ _ _ _ _ _ _ _ _ _ _ _ _ _ _ _ _ _ _ _ _ _ _ _ _ _ _ _ _ _ _ _ _ _ _ _ _ _ (by first | rfl | go_num) (by go_num) (((unhide HF5).trans (far_drewN (fun _ => False) x5 1) (fun _ _ e => e.elim)).trans (far_set _ _ _ _) (fun _ _ e => e)) (((unhide HL5).far (far_drewN (fun _ => False) x5 1) (fun e => e)).set hs (by omega) (unhide HM))
end Go.Proofs.YtamafdcnbcoegaaGreat
namespace Go.Proofs.YtamafdcnbcoegaaGreat
open Go.RowKit
set_option maxRecDepth 1000000 in
set_option maxHeartbeats 32000000 in
theorem win_five {top : Nat} (C : AgentC top) (D : SinkC) (ht : 1000 ≤ top) (N0 U0 va vs g T m lcap i : Nat) (lad : Option Addr) (come : Int) (wr0 wr : World) (a1 a5 : Mod.Ag) (k5 : Mod.Sk) (FL : List (List UInt8)) (fs : List Value) (an : Nat → Nat) (lst : Nat → Nat → Nat → Nat) (hm : m ≤ 80) (hTT : T ≤ 29) (hTi : (T : Int) + 1 < 30) (hsm : FL.length ≤ 12)
    (HVW : Hid (∀ (i : Nat) (h : i < FL.length), FrHello a1 FL.length FL[i] (an i) (an (i + 1)) (lst i) (lst (i + 1)) ∨ FrData a1 T FL[i] (an i) (an (i + 1)) (lst i) (lst (i + 1))))
    (HO5 : Hid (FramesOut U0 wr0 (.slice lad FL.length lcap) fs (FL.map fun l => (⟨l.toArray⟩ : ByteArray)) fun _ => False))
    (hi : i ≤ FL.length) (hil : i < FL.length) (hE : Ends C D N0 (m + 14 * T + 1 + i) wr va vs a5 k5 (fun j => j = g ∨ Outs (.slice lad FL.length lcap) fs j)) (hT : TellI m (T + 1) a1.welcome i a5 k5 (lst FL.length)) (hS : Same N0 (fun j => j = g ∨ Outs (.slice lad FL.length lcap) fs j) wr0 wr)
    (u4 u21 u22 u178 u179 u180 u181 u182 u183 u184 u185 u186 u187 u188 u189 u190 u191 u192 u193 u194 u195 u196 u197 u198 u199 u200 u201 u202 u203 u204 u205 u206 u207 u208 u209 u210 c0 c2 c3 c7 c8 c9 c11 c13 c14 c15 c16 c17 c18 c19 c23 c24 c25 c26 c27 c28 c29 c30 c31 c32 c33 c34 c35 c36 c37 c38 c39 c40 c41 c42 c43 c44 c45 c46 c47 c48 c49 c50 c51 c52 c53 c54 c55 c56 c57 c58 c59 c60 c61 c62 c63 c64 c65 c66 c67 c68 c69 c70 c71 c72 c73 c74 c75 c76 c77 c78 c79 c80 c81 c82 c83 c84 c85 c86 c87 c88 c89 c90 c91 c92 c93 c94 c95 c96 c97 c98 c99 c100 c101 c102 c103 c104 c105 c106 c107 c108 c109 c110 c111 c112 c113 c114 c115 c116 c117 c118 c119 c120 c121 c122 c123 c124 c125 c126 c127 c128 c129 c130 c131 c132 c133 c134 c135 c136 c137 c138 c139 c140 c141 c142 c143 c144 c145 c146 c147 c148 c149 c150 c151 c152 c153 c154 c155 c156 c157 c158 c159 c160 c161 c162 c163 c164 c165 c166 c167 c168 c169 c170 c171 c172 c173 c174 c175 c176 c177 : Value) (R : Act → World → Prop) (Q0 : Exit → Act → World → Prop)
    (HEND : Hid (∀ (t4 t21 t22 t178 t179 t180 t181 t182 t183 t184 t185 t186 t187 t188 t189 t190 t191 t192 t193 t194 t195 t196 t197 t198 t199 t200 t201 t202 t203 t204 t205 t206 t207 t208 t209 t210 v20 : Value) (w' : World) (a' : Mod.Ag) (k' : Mod.Sk), v20 = .int .i64 ((i + 1 : Nat) : Int) → Ends C D N0 (m + 14 * T + 1 + (i + 1)) w' va vs a' k' (fun j => j = g ∨ Outs (.slice lad FL.length lcap) fs j) → TellI m (T + 1) a1.welcome (i + 1) a' k' (lst FL.length) → Same N0 (fun j => j = g ∨ Outs (.slice lad FL.length lcap) fs j) wr0 w' → R ⟨List.toArray (c0 :: .int .u64 come :: c2 :: c3 :: t4 :: .pointer (some ⟨va, 0, none⟩) :: .pointer (some ⟨vs, 0, none⟩) :: c7 :: c8 :: c9 :: .int .i64 ((T : Int) + 1) :: c11 :: .slice lad FL.length lcap :: c13 :: c14 :: c15 :: c16 :: c17 :: c18 :: c19 :: v20 :: t21 :: t22 :: c23 :: c24 :: c25 :: c26 :: c27 :: c28 :: c29 :: c30 :: c31 :: c32 :: c33 :: c34 :: c35 :: c36 :: c37 :: c38 :: c39 :: c40 :: c41 :: c42 :: c43 :: c44 :: c45 :: c46 :: c47 :: c48 :: c49 :: c50 :: c51 :: c52 :: c53 :: c54 :: c55 :: c56 :: c57 :: c58 :: c59 :: c60 :: c61 :: c62 :: c63 :: c64 :: c65 :: c66 :: c67 :: c68 :: c69 :: c70 :: c71 :: c72 :: c73 :: c74 :: c75 :: c76 :: c77 :: c78 :: c79 :: c80 :: c81 :: c82 :: c83 :: c84 :: c85 :: c86 :: c87 :: c88 :: c89 :: c90 :: c91 :: c92 :: c93 :: c94 :: c95 :: c96 :: c97 :: c98 :: c99 :: c100 :: c101 :: c102 :: c103 :: c104 :: c105 :: c106 :: c107 :: c108 :: c109 :: c110 :: c111 :: c112 :: c113 :: c114 :: c115 :: c116 :: c117 :: c118 :: c119 :: c120 :: c121 :: c122 :: c123 :: c124 :: c125 :: c126 :: c127 :: c128 :: c129 :: c130 :: c131 :: c132 :: c133 :: c134 :: c135 :: c136 :: c137 :: c138 :: c139 :: c140 :: c141 :: c142 :: c143 :: c144 :: c145 :: c146 :: c147 :: c148 :: c149 :: c150 :: c151 :: c152 :: c153 :: c154 :: c155 :: c156 :: c157 :: c158 :: c159 :: c160 :: c161 :: c162 :: c163 :: c164 :: c165 :: c166 :: c167 :: c168 :: c169 :: c170 :: c171 :: c172 :: c173 :: c174 :: c175 :: c176 :: c177 :: t178 :: t179 :: t180 :: t181 :: t182 :: t183 :: t184 :: t185 :: t186 :: t187 :: t188 :: t189 :: t190 :: t191 :: t192 :: t193 :: t194 :: t195 :: t196 :: t197 :: t198 :: t199 :: t200 :: t201 :: t202 :: t203 :: t204 :: t205 :: t206 :: t207 :: t208 :: t209 :: t210 :: []), []⟩ w')) :
    Code.wp Tryz.prog winBodyE (Exit.then R Q0) ⟨List.toArray (c0 :: .int .u64 come :: c2 :: c3 :: u4 :: .pointer (some ⟨va, 0, none⟩) :: .pointer (some ⟨vs, 0, none⟩) :: c7 :: c8 :: c9 :: .int .i64 ((T : Int) + 1) :: c11 :: .slice lad FL.length lcap :: c13 :: c14 :: c15 :: c16 :: c17 :: c18 :: c19 :: .int .i64 (i : Nat) :: u21 :: u22 :: c23 :: c24 :: c25 :: c26 :: c27 :: c28 :: c29 :: c30 :: c31 :: c32 :: c33 :: c34 :: c35 :: c36 :: c37 :: c38 :: c39 :: c40 :: c41 :: c42 :: c43 :: c44 :: c45 :: c46 :: c47 :: c48 :: c49 :: c50 :: c51 :: c52 :: c53 :: c54 :: c55 :: c56 :: c57 :: c58 :: c59 :: c60 :: c61 :: c62 :: c63 :: c64 :: c65 :: c66 :: c67 :: c68 :: c69 :: c70 :: c71 :: c72 :: c73 :: c74 :: c75 :: c76 :: c77 :: c78 :: c79 :: c80 :: c81 :: c82 :: c83 :: c84 :: c85 :: c86 :: c87 :: c88 :: c89 :: c90 :: c91 :: c92 :: c93 :: c94 :: c95 :: c96 :: c97 :: c98 :: c99 :: c100 :: c101 :: c102 :: c103 :: c104 :: c105 :: c106 :: c107 :: c108 :: c109 :: c110 :: c111 :: c112 :: c113 :: c114 :: c115 :: c116 :: c117 :: c118 :: c119 :: c120 :: c121 :: c122 :: c123 :: c124 :: c125 :: c126 :: c127 :: c128 :: c129 :: c130 :: c131 :: c132 :: c133 :: c134 :: c135 :: c136 :: c137 :: c138 :: c139 :: c140 :: c141 :: c142 :: c143 :: c144 :: c145 :: c146 :: c147 :: c148 :: c149 :: c150 :: c151 :: c152 :: c153 :: c154 :: c155 :: c156 :: c157 :: c158 :: c159 :: c160 :: c161 :: c162 :: c163 :: c164 :: c165 :: c166 :: c167 :: c168 :: c169 :: c170 :: c171 :: c172 :: c173 :: c174 :: c175 :: c176 :: c177 :: u178 :: u179 :: u180 :: u181 :: u182 :: u183 :: u184 :: u185 :: u186 :: u187 :: u188 :: u189 :: u190 :: u191 :: u192 :: u193 :: u194 :: u195 :: u196 :: u197 :: u198 :: u199 :: u200 :: u201 :: u202 :: u203 :: u204 :: u205 :: u206 :: u207 :: u208 :: u209 :: u210 :: []), []⟩ wr := by
  conv => arg 2; whnf
  have hO3 := (unhide HO5).keep (fun q hq => hS.blk ((unhide HO5).lt q hq).2 (.inr hq))
  obtain ⟨v, hv, hown⟩ := hO3.get i (by simpa using hil)
  simp only [List.getElem_map] at hown
  have hlf : fs.length = FL.length := by rw [hO3.len]; simp
  have hrow := hO3.row
  rw [hlf] at hrow
  have h0 : 0 < FL.length := by omega
  obtain ⟨gl, c2, hadd⟩ := own_shapeB hrow h0
  injection hadd with hadd _ hcc
  subst hadd
  subst hcc
  have cj := World.ownsRow.cellAt hrow i (by omega)
  rw [hv] at cj
  obtain ⟨vad, vcap, ev, _⟩ := (own_rowO hown).shape
  rw [ev] at cj hown
  have hat : BytesAt wr (.slice vad FL[i].length vcap) FL[i] := by simpa using Owns.at hown
  have hcl : FL.length ≤ lcap := by
    rcases hrow.2 with ⟨h, _⟩ | ⟨g', cap', cur, h, _, _, h2, _⟩
    · cases h
    · injection h with _ _ h3
      omega
  have hjn : (i : Int) < (FL.length : Int) := by omega
  have hj0 : (0 : Int) ≤ (i : Int) := by omega
  obtain ⟨r1, k', hsk, hT1, hT2⟩ := hT.step hil ((unhide HVW) i hil)
  have HTK0 := hE.take _ FL[i] hat
  rw [hsk] at HTK0
  have HTK := hide HTK0
  have HT1 := hide hT1
  have HT2 := hide hT2
  have HS := hide hS
  have HBE := hide hE.bx
  have hI := hide (And.intro hil hi)
  generalize hfl : FL[i].length = fl at cj HTK
  clear hfl HTK0 hat hsk hT1 hT2 hT hE hS hown hrow hv ev hO3 hlf h0
  unfold ptrTo at HTK
  go_upto_region 42 with (go_at_call 27; refine (unhide HTK).mono ?_; rintro r2 y1 ⟨lv2, fs2, rfl, k1, k2, k3⟩; obtain ⟨ad2, cap2, e2, _⟩ := (own_rowO k1.row).shape; rw [show fs2.length = 1 from k1.len] at e2; subst e2; have HO2 := hide k1; have HE2 := hide k2; have HS2 := hide k3; clear k1 k2 k3)
  have hrow2 := (unhide HO2).row
  rw [show fs2.length = 1 from (unhide HO2).len] at hrow2
  obtain ⟨g2, c3, hadd2⟩ := own_shapeB hrow2 (by omega)
  injection hadd2 with hadd2 _ hcc2
  subst hadd2
  subst hcc2
  obtain ⟨v2, hv2, hown2⟩ := (unhide HO2).get 0 (by simp)
  have cj2 := World.ownsRow.cellAt hrow2 0 (by omega)
  rw [hv2] at cj2
  obtain ⟨vad2, vcap2, ev2, _⟩ := (own_rowO hown2).shape
  rw [ev2] at cj2 hown2
  simp only [List.getElem_cons_zero] at cj2 hown2
  have hat2 := Owns.at hown2
  have HHR := hide ((unhide HE2).hear (by have := (unhide hI).1; omega) _ _ hat2)
  generalize r1.data.toList.length = fl2 at cj2 HHR
  have hc2l : 1 ≤ cap2 := by
    rcases hrow2.2 with ⟨h, _⟩ | ⟨g', cap', cur, h, _, _, h2, _⟩
    · cases h
    · injection h with _ _ h3
      omega
  clear hat2 hown2 ev2 hv2 hrow2 HTK cj
  have hsh : (0 : Int) ≤ ((T : Int) + 1) % 64 := by omega
  unfold ptrTo at HHR
  cases hcd : (bits BinOp.and IntKind.u64 (come / 2 ^ ((T + 1) % 64)) 1 == 1) with
  | true =>
    go_wp2_with (go_at_call 28; refine (unhide HHR).mono ?_; rintro r3 y3 ⟨rfl, k1, k2⟩; have HE3 := hide k1; have HS3 := hide k2; clear k1 k2)
    exact unhide HEND _ _ _ _ _ _ _ _ _ _ _ _ _ _ _ _ _ _ _ _ _ _ _ _ _ _ _ _ _ _ _ _ _ _ _ _ _ _ _ _ (by go_num) ((unhide HE3).mono (fun _ hq => .inl hq) (by omega)) (unhide HT2) (Same.trans (Same.trans (unhide HS) (unhide HS2) (fun _ _ h => h)) ((unhide HS3).less (fun _ h => .inl h)) (fun _ _ h => h))
  | false =>
    go_wp2
    exact unhide HEND _ _ _ _ _ _ _ _ _ _ _ _ _ _ _ _ _ _ _ _ _ _ _ _ _ _ _ _ _ _ _ _ _ _ _ _ _ _ _ _ (by go_num) ((unhide HE2).mono (fun _ hq => .inl hq) (by omega)) (unhide HT1) (Same.trans (unhide HS) (unhide HS2) (fun _ _ h => h))
end Go.Proofs.YtamafdcnbcoegaaGreat
namespace Go.Proofs.YtamafdcnbcoegaaGreat
open Go.RowKit
set_option maxRecDepth 1000000 in
set_option maxHeartbeats 32000000 in
theorem win_hello (va vs g T nf gl lcap fl vcap i an0 : Nat) (vad : Option Addr) (y wr : World) (l0 : Nat → Nat → Nat) (hil : i < nf) (hsm : nf ≤ 12) (hn1 : nf = 1) (cj : wr.cell? ⟨gl, i, none⟩ = some (.slice vad fl vcap)) (hat : Hid (BytesAt wr (.slice vad fl vcap) (Wire.bytes 1 1 0 0 []))) (HF : Hid (Far (fun j => j = g) y wr)) (HLA : Hid (LastAt wr g l0)) (u4 u15 u16 u17 u18 u19 u67 u68 u69 u70 u71 u72 u73 u74 u75 u76 u77 u78 u79 u80 u81 u82 u83 u84 u85 u86 u87 u88 u89 u90 u91 u92 u93 u94 u95 u96 u97 u98 u99 u100 u101 u102 u103 u104 u105 u106 u107 u108 u109 u110 u111 u112 u113 u114 u115 u116 u117 u118 u119 u120 u121 u122 u123 u124 u125 u126 u127 u128 u129 u130 u131 u132 u133 u134 u135 u136 u137 u138 u139 u140 u141 u142 u143 u144 u145 u146 u147 u148 u149 u150 u151 u152 u153 u154 u155 u156 u157 u158 u159 u160 u161 u162 u163 u164 u165 u166 u167 u168 u169 u170 u171 u172 u173 u174 u175 u176 u177 c0 c1 c2 c3 c7 c9 c11 c20 c21 c22 c23 c24 c25 c26 c27 c28 c29 c30 c31 c32 c33 c34 c35 c36 c37 c38 c39 c40 c41 c42 c43 c44 c45 c46 c47 c48 c49 c50 c51 c52 c53 c54 c55 c56 c57 c58 c59 c60 c61 c62 c63 c64 c65 c66 c178 c179 c180 c181 c182 c183 c184 c185 c186 c187 c188 c189 c190 c191 c192 c193 c194 c195 c196 c197 c198 c199 c200 c201 c202 c203 c204 c205 c206 c207 c208 c209 c210 : Value) (R : Act → World → Prop) (Q0 : Exit → Act → World → Prop) (HEND : Hid (∀ (t4 t15 t16 t17 t18 t19 t67 t68 t69 t70 t71 t72 t73 t74 t75 t76 t77 t78 t79 t80 t81 t82 t83 t84 t85 t86 t87 t88 t89 t90 t91 t92 t93 t94 t95 t96 t97 t98 t99 t100 t101 t102 t103 t104 t105 t106 t107 t108 t109 t110 t111 t112 t113 t114 t115 t116 t117 t118 t119 t120 t121 t122 t123 t124 t125 t126 t127 t128 t129 t130 t131 t132 t133 t134 t135 t136 t137 t138 t139 t140 t141 t142 t143 t144 t145 t146 t147 t148 t149 t150 t151 t152 t153 t154 t155 t156 t157 t158 t159 t160 t161 t162 t163 t164 t165 t166 t167 t168 t169 t170 t171 t172 t173 t174 t175 t176 t177 v13 v14 : Value) (w' : World), v13 = .int .i64 (an0 : Nat) → v14 = .int .i64 ((i + 1 : Nat) : Int) → Far (fun j => j = g) y w' → LastAt w' g l0 → R ⟨List.toArray (c0 :: c1 :: c2 :: c3 :: t4 :: .pointer (some ⟨va, 0, none⟩) :: .pointer (some ⟨vs, 0, none⟩) :: c7 :: .pointer (some ⟨g, 0, none⟩) :: c9 :: .int .i64 ((T : Int) + 1) :: c11 :: .slice (some ⟨gl, 0, none⟩) nf lcap :: v13 :: v14 :: t15 :: t16 :: t17 :: t18 :: t19 :: c20 :: c21 :: c22 :: c23 :: c24 :: c25 :: c26 :: c27 :: c28 :: c29 :: c30 :: c31 :: c32 :: c33 :: c34 :: c35 :: c36 :: c37 :: c38 :: c39 :: c40 :: c41 :: c42 :: c43 :: c44 :: c45 :: c46 :: c47 :: c48 :: c49 :: c50 :: c51 :: c52 :: c53 :: c54 :: c55 :: c56 :: c57 :: c58 :: c59 :: c60 :: c61 :: c62 :: c63 :: c64 :: c65 :: c66 :: t67 :: t68 :: t69 :: t70 :: t71 :: t72 :: t73 :: t74 :: t75 :: t76 :: t77 :: t78 :: t79 :: t80 :: t81 :: t82 :: t83 :: t84 :: t85 :: t86 :: t87 :: t88 :: t89 :: t90 :: t91 :: t92 :: t93 :: t94 :: t95 :: t96 :: t97 :: t98 :: t99 :: t100 :: t101 :: t102 :: t103 :: t104 :: t105 :: t106 :: t107 :: t108 :: t109 :: t110 :: t111 :: t112 :: t113 :: t114 :: t115 :: t116 :: t117 :: t118 :: t119 :: t120 :: t121 :: t122 :: t123 :: t124 :: t125 :: t126 :: t127 :: t128 :: t129 :: t130 :: t131 :: t132 :: t133 :: t134 :: t135 :: t136 :: t137 :: t138 :: t139 :: t140 :: t141 :: t142 :: t143 :: t144 :: t145 :: t146 :: t147 :: t148 :: t149 :: t150 :: t151 :: t152 :: t153 :: t154 :: t155 :: t156 :: t157 :: t158 :: t159 :: t160 :: t161 :: t162 :: t163 :: t164 :: t165 :: t166 :: t167 :: t168 :: t169 :: t170 :: t171 :: t172 :: t173 :: t174 :: t175 :: t176 :: t177 :: c178 :: c179 :: c180 :: c181 :: c182 :: c183 :: c184 :: c185 :: c186 :: c187 :: c188 :: c189 :: c190 :: c191 :: c192 :: c193 :: c194 :: c195 :: c196 :: c197 :: c198 :: c199 :: c200 :: c201 :: c202 :: c203 :: c204 :: c205 :: c206 :: c207 :: c208 :: c209 :: c210 :: []), []⟩ w')) :
    Code.wp Tryz.prog winBodyC (Exit.then R Q0) ⟨List.toArray (c0 :: c1 :: c2 :: c3 :: u4 :: .pointer (some ⟨va, 0, none⟩) :: .pointer (some ⟨vs, 0, none⟩) :: c7 :: .pointer (some ⟨g, 0, none⟩) :: c9 :: .int .i64 ((T : Int) + 1) :: c11 :: .slice (some ⟨gl, 0, none⟩) nf lcap :: .int .i64 (an0 : Nat) :: .int .i64 (i : Nat) :: u15 :: u16 :: u17 :: u18 :: u19 :: c20 :: c21 :: c22 :: c23 :: c24 :: c25 :: c26 :: c27 :: c28 :: c29 :: c30 :: c31 :: c32 :: c33 :: c34 :: c35 :: c36 :: c37 :: c38 :: c39 :: c40 :: c41 :: c42 :: c43 :: c44 :: c45 :: c46 :: c47 :: c48 :: c49 :: c50 :: c51 :: c52 :: c53 :: c54 :: c55 :: c56 :: c57 :: c58 :: c59 :: c60 :: c61 :: c62 :: c63 :: c64 :: c65 :: c66 :: u67 :: u68 :: u69 :: u70 :: u71 :: u72 :: u73 :: u74 :: u75 :: u76 :: u77 :: u78 :: u79 :: u80 :: u81 :: u82 :: u83 :: u84 :: u85 :: u86 :: u87 :: u88 :: u89 :: u90 :: u91 :: u92 :: u93 :: u94 :: u95 :: u96 :: u97 :: u98 :: u99 :: u100 :: u101 :: u102 :: u103 :: u104 :: u105 :: u106 :: u107 :: u108 :: u109 :: u110 :: u111 :: u112 :: u113 :: u114 :: u115 :: u116 :: u117 :: u118 :: u119 :: u120 :: u121 :: u122 :: u123 :: u124 :: u125 :: u126 :: u127 :: u128 :: u129 :: u130 :: u131 :: u132 :: u133 :: u134 :: u135 :: u136 :: u137 :: u138 :: u139 :: u140 :: u141 :: u142 :: u143 :: u144 :: u145 :: u146 :: u147 :: u148 :: u149 :: u150 :: u151 :: u152 :: u153 :: u154 :: u155 :: u156 :: u157 :: u158 :: u159 :: u160 :: u161 :: u162 :: u163 :: u164 :: u165 :: u166 :: u167 :: u168 :: u169 :: u170 :: u171 :: u172 :: u173 :: u174 :: u175 :: u176 :: u177 :: c178 :: c179 :: c180 :: c181 :: c182 :: c183 :: c184 :: c185 :: c186 :: c187 :: c188 :: c189 :: c190 :: c191 :: c192 :: c193 :: c194 :: c195 :: c196 :: c197 :: c198 :: c199 :: c200 :: c201 :: c202 :: c203 :: c204 :: c205 :: c206 :: c207 :: c208 :: c209 :: c210 :: []), []⟩ wr := by
  conv => arg 2; whnf
  have hjn : (i : Int) < (nf : Int) := by omega
  have hj0 : (0 : Int) ≤ (i : Int) := by omega
  have HDC : Hid (Calls Tryz.prog 25 #[.slice vad fl vcap] wr fun r w' => r = .returned (.tuple #[.agg #[.int .i64 1, .int .i64 1, .int .i64 0, .int .i64 0, .string ⟨#[]⟩], .int .i64 0]) ∧ Below wr.heap.size wr w') := keepDecode_of _ 1 1 0 0 ⟨#[]⟩ _ (proper_hello (n := 1) (by omega)) (unhide hat)
  have hl1 : ((nf : Int) != 1) = false := by rw [hn1]; rfl
  clear hat hn1
  go_upto_region 22 with (go_at_call 25; refine (unhide HDC).mono ?_; rintro r y2 ⟨rfl, hy2⟩; have HF2 := hide ((unhide HF).trans (far_below (E := fun _ => False) hy2) (fun _ _ e => e.elim)); have HL2 := hide ((unhide HLA).below hy2); clear hy2)
  obtain ⟨fb, hfb⟩ : ∃ fb, fb = y2.heap.size := ⟨_, rfl⟩
  rw [← hfb]
  refine wp_world (fun x => Far (fun j => j = g) y x ∧ LastAt x g l0 ∧ FrBox x fb 1 1 0 0 ⟨#[]⟩) ?_ ?_
  · have hb2 := (Below.refl y2.heap.size y2).alloc (Nat.le_refl _) (.cells #[.int .i64 1, .int .i64 1, .int .i64 0, .int .i64 0, .string ⟨#[]⟩] 41)
    rw [hfb]
    exact ⟨(unhide HF2).trans (far_below (E := fun _ => False) hb2) (fun _ _ e => e.elim), (unhide HL2).below hb2, frBox_new _ _ _ _ _ _ _⟩
  clear hfb HF2 HL2 HDC HF HLA cj
  rintro x2 ⟨F2, L2, B2⟩
  obtain ⟨d0, d1, _, _, _⟩ := B2
  have HF2 := hide F2
  have HL2 := hide L2
  clear F2 L2
  go_wp2
  exact unhide HEND _ _ _ _ _ _ _ _ _ _ _ _ _ _ _ _ _ _ _ _ _ _ _ _ _ _ _ _ _ _ _ _ _ _ _ _ _ _ _ _ _ _ _ _ _ _ _ _ _ _ _ _ _ _ _ _ _ _ _ _ _ _ _ _ _ _ _ _ _ _ _ _ _ _ _ _ _ _ _ _ _ _ _ _ _ _ _ _ _ _ _ _ _ _ _ _ _ _ _ _ _ _ _ _ _ _ _ _ _ _ _ _ _ _ _ _ _ _ _ _ rfl (by go_num) (unhide HF2) (unhide HL2)
end Go.Proofs.YtamafdcnbcoegaaGreat
namespace Go.Proofs.YtamafdcnbcoegaaGreat
open Go.RowKit
set_option maxRecDepth 100000 in
set_option maxHeartbeats 32000000 in
theorem windowed_any {top : Nat} (C : AgentC top) (D : SinkC) (ht : 1000 ≤ top) (ad : Option Addr) (len cap : Nat) (come : Int) (w : World) (hlz : len ≤ 140737488355328) (hc : 0 ≤ come ∧ come ≤ 18446744073709551615) (h : IntsIn w ad len) :
    Calls Tryz.prog 7 #[.slice ad len cap, .int .u64 come] w fun r y => r = .returned (.bool true) ∧ Below w.heap.size w y := by
  have HI := hide h
  have HC := hide hc
  clear h hc
  go_enter Tryz.func7, Tryz.ntmps7
  go_upto_region 2 with (go_at_call 18; refine (keepAgent_00 C _).mono ?_; rintro r x1 ⟨va, U, rfl, k1, k2, k3⟩; have HA := hide (And.intro k1 (And.intro k2 k3)); clear k1 k2 k3)
  go_upto_region 3 with (go_at_call 19; refine (keepSink_00 D _).mono ?_; rintro r x2 ⟨vs, V, rfl, k1, k2, k3⟩; have HS := hide (And.intro k1 (And.intro k2 k3)); clear k1 k2 k3)
  unfold ptrTo at *
  have HE := hide (ends_start (unhide HA).1 (unhide HA).2.1 (unhide HA).2.2 (unhide HS).1 (unhide HS).2.1 (unhide HS).2.2)
  clear HA HS
  go_upto_region 4 with (go_at_call 20; refine (known_any C D ht x2).mono ?_; rintro r x3 ⟨rfl, k1⟩; have HE3 := hide (And.intro ((unhide HE).1.below k1) ((unhide HE).2.trans (k1.mono (unhide HE).1.bx))); clear k1)
  clear HE
  go_upto_region 7 with fail
  obtain ⟨g, hg⟩ : ∃ g, g = x3.heap.size := ⟨_, rfl⟩
  rw [← hg]
  refine wp_world (fun x => Ends C D w.heap.size 0 x va vs ag00 sk00 (fun j => j = g) ∧ LastAt x g (fun _ _ => 0) ∧ Below w.heap.size w x) ?_ ?_
  · have hb := (Below.refl x3.heap.size x3).alloc (Nat.le_refl _) (.cells Tryz.zeroCells33 33)
    refine ⟨((unhide HE3).1.more hb).mono (fun j hj => .inr (by subst hj; rw [hg]; exact ⟨Nat.le_refl _, by simp⟩)) (Nat.le_refl _), by rw [hg]; exact lastAt_zero, (unhide HE3).2.trans (hb.mono (unhide HE3).1.bx)⟩
  have HGB := hide (show w.heap.size ≤ g by rw [hg]; exact (unhide HE3).1.bx)
  clear hg HE3
  rintro x ⟨E0, L0, B0⟩
  have HE0 := hide E0
  have HL0 := hide L0
  have HB0 := hide B0
  clear E0 L0 B0
  go_wp2
  go_loopw [9, 10] (fun mv tv wr => ∃ m T : Nat, m ≤ 80 ∧ T ≤ 29 ∧ mv = .int .i64 m ∧ tv = .int .i64 ((T : Int) + 1) ∧ ∃ a k last, Ends C D w.heap.size (m + 14 * T) wr va vs a k (fun j => j = g) ∧ WinI a k last m T ∧ LastAt wr g last ∧ Below w.heap.size w wr) (fun _ tv _ => 30 - (intOf tv).toNat)
  case atStart => exact ⟨0, 0, by omega, by omega, rfl, rfl, ag00, sk00, _, unhide HE0, winI_00, unhide HL0, unhide HB0⟩
  case round =>
    obtain ⟨m, T, hm, hT, rfl, rfl, a, k, last, hE, hW, hL, hB⟩ := hrel
    clear HE0 HL0 HB0
    have hT29 := hT
    by_cases hlt : T < 29
    · have hTi : (T : Int) + 1 < 30 := by omega
      have HE := hide hE
      have HW := hide hW
      have HL := hide hL
      have HB := hide hB
      clear hE hW hL hB
      go_upto_region 11 with fail
      go_cut [9, 11] from 36 to 210 (fun mv iv wx => mv = .int .i64 m ∧ iv = .int .i64 0 ∧ wx = wr)
      case first =>
        go_wp2
        go_meet
        exact ⟨rfl, rfl, rfl⟩
      case rest =>
       obtain ⟨rfl, rfl, hw0⟩ := hcut
       obtain rfl : wr = wc := hw0.symm
       rename_i K1 a1
       refine a1 _ _ ?_
       clear a1
       go_cut [9] from 36 to 210 (fun mv wx => ∃ m : Nat, m ≤ 80 ∧ mv = .int .i64 m ∧ ∃ a, Ends C D w.heap.size (m + 14 * T) wx va vs a k (fun j => j = g) ∧ WinI a k last m T ∧ LastAt wx g last ∧ Below w.heap.size w wx)
       case first =>
        go_wp2
        go_loopw [9, 11] (fun mv iv wr => ∃ m i : Nat, m ≤ 80 ∧ i ≤ 2 ∧ mv = .int .i64 m ∧ iv = .int .i64 i ∧ ∃ a, Ends C D w.heap.size (m + 14 * T) wr va vs a k (fun j => j = g) ∧ WinI a k last m T ∧ LastAt wr g last ∧ Below w.heap.size w wr) (fun _ iv _ => 2 - (intOf iv).toNat)
        case atStart => exact ⟨m, 0, by omega, by omega, rfl, rfl, a, unhide HE, unhide HW, unhide HL, unhide HB⟩
        case round =>
         clear HE HW HL HB
         clear hm
         obtain ⟨m, i, hm, hi, rfl, rfl, a, hE, hW, hL, hB⟩ := hrel
         by_cases hgo : i < 2 ∧ m < len ∧ m < 80
         · obtain ⟨g1, g2, g3⟩ := hgo
           have i1 : (i : Int) < 2 := by omega
           have i2 : (m : Int) < (len : Int) := by omega
           have i3 : (m : Int) < 80 := by omega
           have i4 : (0 : Int) ≤ (m : Int) := by omega
           obtain ⟨b0, off, rfl, hb0, hcs⟩ := (unhide HI).below hB (by omega)
           obtain ⟨c, hc1, hc2⟩ := hcs m g2
           have HP := hide (keepPick_any c 3 wr hc1 (by omega) (by omega))
           have hs3 := pickN_lt c (n := 3) (by omega)
           generalize pickN c 3 = s at HP hs3
           have HDG := hide (digits_any m wr (by omega))
           have hds : (digB m).size ≤ 20 := by have := digB_size (n := m) (by omega); omega
           generalize digB m = db at HDG hds
           have HE := hide hE
           have HW := hide (hW.submit hs3 db hds)
           have HL := hide hL
           have HB := hide hB
           clear hE hW hL hB hcs hc1
           go_wp2_with (first
             | (go_at_call 22; refine (unhide HP).mono ?_; rintro r y ⟨rfl, rfl⟩)
             | (go_at_call 23; refine (unhide HDG).mono ?_; rintro r y ⟨rfl, hy⟩; have HEY := hide ((unhide HE).below hy); have HLY := hide ((unhide HL).below hy); have HBY := hide ((unhide HB).trans (hy.mono (unhide HE).bx)); clear hy; have HSB := hide ((unhide HEY).submit (by omega) s db); unfold ptrTo at HSB)
             | (go_at_call 21; refine (unhide HSB).mono ?_; rintro r y2 ⟨rfl, k1, k2⟩; have HE2 := hide k1; have HS2 := hide k2; clear k1 k2))
           go_roundw
           case rel => exact ⟨m + 1, i + 1, by omega, by omega, by go_num, by go_num, _, by have := unhide HE2; rw [show m + 1 + 14 * T = m + 14 * T + 1 by omega]; exact this, unhide HW, (unhide HLY).far (unhide HS2) (fun e => e.2 rfl), (unhide HBY).trans ((unhide HS2).bel (unhide HEY).bx)⟩
           case measure => simp [intOf]; omega
         · by_cases g1 : i < 2
           · have i1 : (i : Int) < 2 := by omega
             by_cases g2 : m < len
             · have i2 : (m : Int) < (len : Int) := by omega
               have i3 : ¬ (m : Int) < 80 := by omega
               go_wp2
               go_meet
               exact ⟨m, hm, rfl, a, hE, hW, hL, hB⟩
             · have i2 : ¬ (m : Int) < (len : Int) := by omega
               go_wp2
               go_meet
               exact ⟨m, hm, rfl, a, hE, hW, hL, hB⟩
           · have i1 : ¬ (i : Int) < 2 := by omega
             go_wp2
             go_meet
             exact ⟨m, hm, rfl, a, hE, hW, hL, hB⟩
       case rest =>
        clear HE HW HL HB hw0 hm
        obtain ⟨m, hm, rfl, a, hE, hW, hL, hB⟩ := hcut
        obtain ⟨an, lst, han, hlst, hW1, hview⟩ := hW.view hm
        subst hlst
        have HT := hide (hE.tick (by omega))
        have hsm := (tick_small hE.ga).1
        have HW1 := hide hW1
        have HVW := hide hview
        have HAN := hide han
        have HL := hide hL
        have HB := hide hB
        have HBX := hide hE.bx
        have HGL := hide hL.lt
        unfold ptrTo at HT
        clear hE hW hL hB hW1 hview han
        generalize a.tick.1 = a1 at HT HW1 HVW
        generalize a.tick.2 = FL at HT HW1 HVW hsm
        go_upto_region 17 with (go_at_call 24; refine (unhide HT).mono ?_; rintro r y ⟨lv, fs, rfl, k1, k2, k3⟩; obtain ⟨lad, lcap, e, _⟩ := (own_rowO k1.row).shape; rw [show fs.length = FL.length by rw [k1.len]; simp] at e; subst e; have hzy := k3.size; have HO := hide k1; have HE := hide k2; have HS := hide k3; clear k1 k2 k3)
        have HLY := hide ((unhide HL).far (unhide HS) (fun e => e.2 rfl))
        have HBY := hide ((unhide HB).trans ((unhide HS).bel (unhide HBX)))
        clear HL HB HS HT
        go_wp2
        go_loopw [13, 14] (fun av iv wr => ∃ i : Nat, i ≤ FL.length ∧ iv = .int .i64 i ∧ av = .int .i64 (an i : Nat) ∧ Far (fun j => j = g) y wr ∧ LastAt wr g (lst i)) (fun _ iv _ => FL.length - (intOf iv).toNat)
        case atStart => exact ⟨0, by omega, rfl, by rw [unhide HAN]; rfl, Far.refl _ _, unhide HLY⟩
        case round =>
          obtain ⟨i, hi, rfl, rfl, hF, hLA⟩ := hrel
          by_cases hil : i < FL.length
          · have hO2 := (unhide HO).keep (fun q hq => hF.rest q ((unhide HO).lt q hq).2 (fun e => by have := ((unhide HO).lt q hq).1; have := unhide HGL; omega))
            obtain ⟨v, hv, hown⟩ := hO2.get i (by simpa using hil)
            simp only [List.getElem_map] at hown
            have hlf : fs.length = FL.length := by rw [(unhide HO).len]; simp
            have hrow := hO2.row
            rw [hlf] at hrow
            have h0 : 0 < FL.length := by omega
            obtain ⟨gl, c2, hadd⟩ := own_shapeB hrow h0
            injection hadd with hadd _ hcc
            subst hadd
            subst hcc
            have cj := World.ownsRow.cellAt hrow i (by omega)
            rw [hv] at cj
            obtain ⟨vad, vcap, ev, _⟩ := (own_rowO hown).shape
            rw [ev] at cj hown
            have hat : BytesAt wr (.slice vad FL[i].length vcap) FL[i] := by simpa using Owns.at hown
            have hcl : FL.length ≤ lcap := by
              rcases hrow.2 with ⟨h, _⟩ | ⟨g', cap', cur, h, _, _, h2, _⟩
              · cases h
              · injection h with _ _ h3
                omega
            have hjn : (i : Int) < (FL.length : Int) := by omega
            have hj0 : (0 : Int) ≤ (i : Int) := by omega
            have hv3 := (unhide HVW) i hil
            have hI := hide (And.intro hil hi)
            have HF := hide hF
            have HLA := hide hLA
            generalize hfl : FL[i].length = fl at cj hat
            clear hfl hF hLA hO2 hown hrow hv hlf h0
            generalize FL[i] = FLi at hat hv3
            clear ev
            rcases hv3 with hv3 | hv3
            · obtain ⟨hwl, hn1, rfl, hat1, hls⟩ := hv3
              refine win_hello va vs g T FL.length gl lcap fl vcap i (an i) vad y wr (lst i) hil hsm hn1 cj (hide hat) HF HLA _ _ _ _ _ _ _ _ _ _ _ _ _ _ _ _ _ _ _ _ _ _ _ _ _ _ _ _ _ _ _ _ _ _ _ _ _ _ _ _ _ _ _ _ _ _ _ _ _ _ _ _ _ _ _ _ _ _ _ _ _ _ _ _ _ _ _ _ _ _ _ _ _ _ _ _ _ _ _ _ _ _ _ _ _ _ _ _ _ _ _ _ _ _ _ _ _ _ _ _ _ _ _ _ _ _ _ _ _ _ _ _ _ _ _ _ _ _ _ _ _ _ _ _ _ _ _ _ _ _ _ _ _ _ _ _ _ _ _ _ _ _ _ _ _ _ _ _ _ _ _ _ _ _ _ _ _ _ _ _ _ _ _ _ _ _ _ _ _ _ _ _ _ _ _ _ _ _ _ _ _ _ _ _ _ _ _ _ _ _ _ _ _ _ _ _ _ _ _ _ _ _ _ _ _ _ (hide ?_)
              intro t4 t15 t16 t17 t18 t19 t67 t68 t69 t70 t71 t72 t73 t74 t75 t76 t77 t78 t79 t80 t81 t82 t83 t84 t85 t86 t87 t88 t89 t90 t91 t92 t93 t94 t95 t96 t97 t98 t99 t100 t101 t102 t103 t104 t105 t106 t107 t108 t109 t110 t111 t112 t113 t114 t115 t116 t117 t118 t119 t120 t121 t122 t123 t124 t125 t126 t127 t128 t129 t130 t131 t132 t133 t134 t135 t136 t137 t138 t139 t140 t141 t142 t143 t144 t145 t146 t147 t148 t149 t150 t151 t152 t153 t154 t155 t156 t157 t158 t159 t160 t161 t162 t163 t164 t165 t166 t167 t168 t169 t170 t171 t172 t173 t174 t175 t176 t177 v13 v14 w' e13 e14 hF' hL'
              go_roundw
              case rel => exact ⟨i + 1, hil, e14, by rw [e13, hat1], hF', by rw [hls]; exact hL'⟩
              case measure => rw [e14]; simp [intOf]; omega
            · obtain ⟨hwl, s, q, j, b, hs, hq0, hq, hj, hb, rfl, hsp, hat0, hdue, hat1, hltT, hls⟩ := hv3
              have hSl : (agSpools a1 (s : Int)).length ≤ 80 := by
                have := (unhide HW1).sum s hs
                unfold agSpools
                rw [if_pos (by omega)]
                simp only [Mod.Ag.spool, List.length_map, Int.toNat_natCast]
                omega
              refine win_data C D w.heap.size (m + 14 * T + 1) va vs g T FL.length gl lcap fl vcap i s q j (an i) vad y wr a1 k _ (lst i) (lst (i + 1)) b HE (hide (.inl rfl)) hSl hil hsm cj (hide hat) HF HLA hTi hs hq0 hq hj hb hsp hat0 hdue hltT (hide hls) _ _ _ _ _ _ _ _ _ _ _ _ _ _ _ _ _ _ _ _ _ _ _ _ _ _ _ _ _ _ _ _ _ _ _ _ _ _ _ _ _ _ _ _ _ _ _ _ _ _ _ _ _ _ _ _ _ _ _ _ _ _ _ _ _ _ _ _ _ _ _ _ _ _ _ _ _ _ _ _ _ _ _ _ _ _ _ _ _ _ _ _ _ _ _ _ _ _ _ _ _ _ _ _ _ _ _ _ _ _ _ _ _ _ _ _ _ _ _ _ _ _ _ _ _ _ _ _ _ _ _ _ _ _ _ _ _ _ _ _ _ _ _ _ _ _ _ _ _ _ _ _ _ _ _ _ _ _ _ _ _ _ _ _ _ _ _ _ _ _ _ _ _ _ _ _ _ _ _ _ _ _ _ _ _ _ _ _ _ _ _ _ _ _ _ _ _ _ _ _ _ _ _ _ _ _ (hide ?_)
              intro t4 t15 t16 t17 t18 t19 t67 t68 t69 t70 t71 t72 t73 t74 t75 t76 t77 t78 t79 t80 t81 t82 t83 t84 t85 t86 t87 t88 t89 t90 t91 t92 t93 t94 t95 t96 t97 t98 t99 t100 t101 t102 t103 t104 t105 t106 t107 t108 t109 t110 t111 t112 t113 t114 t115 t116 t117 t118 t119 t120 t121 t122 t123 t124 t125 t126 t127 t128 t129 t130 t131 t132 t133 t134 t135 t136 t137 t138 t139 t140 t141 t142 t143 t144 t145 t146 t147 t148 t149 t150 t151 t152 t153 t154 t155 t156 t157 t158 t159 t160 t161 t162 t163 t164 t165 t166 t167 t168 t169 t170 t171 t172 t173 t174 t175 t176 t177 v13 v14 w' e13 e14 hF' hL'
              go_roundw
              case rel => exact ⟨i + 1, hil, e14, by rw [e13, hat1], hF', hL'⟩
              case measure => rw [e14]; simp [intOf]; omega
          · have hin : i = FL.length := by omega
            subst hin
            have HO5 := hide ((unhide HO).keep (fun q hq => hF.rest q ((unhide HO).lt q hq).2 (fun e => by have := ((unhide HO).lt q hq).1; have := unhide HGL; omega)))
            have HE5 := hide ((unhide HE).far hF (fun j e => .inl (.inl e)))
            have HL5 := hide hLA
            have HB5 := hide ((unhide HBY).trans (Far.below hF (unhide HE).bx (fun k hk e => by have := unhide HGB; omega)))
            clear hF hLA HO HE HLY HBY
            go_wp2
            go_loopw [20] (fun iv wr5 => ∃ i : Nat, i ≤ FL.length ∧ iv = .int .i64 i ∧ ∃ a5 k5, Ends C D w.heap.size (m + 14 * T + 1 + i) wr5 va vs a5 k5 (fun j => j = g ∨ Outs (.slice lad FL.length lcap) fs j) ∧ TellI m (T + 1) a1.welcome i a5 k5 (lst FL.length) ∧ Same w.heap.size (fun j => j = g ∨ Outs (.slice lad FL.length lcap) fs j) wr wr5) (fun iv _ => FL.length - (intOf iv).toNat)
            case atStart => exact ⟨0, by omega, rfl, a1, k, (unhide HE5).mono (fun _ h => h) (by omega), ⟨unhide HW1, (unhide HE5).gk, fun h => h, fun h _ => h⟩, Same.refl _ _ _⟩
            case round =>
              obtain ⟨i, hi, rfl, a5, k5, hE, hT, hS⟩ := hrel
              by_cases hil : i < FL.length
              · refine win_five C D ht w.heap.size _ va vs g T m lcap i lad come _ wr a1 a5 k5 FL fs an lst hm hT29 hTi hsm HVW HO5 hi hil hE hT hS _ _ _ _ _ _ _ _ _ _ _ _ _ _ _ _ _ _ _ _ _ _ _ _ _ _ _ _ _ _ _ _ _ _ _ _ _ _ _ _ _ _ _ _ _ _ _ _ _ _ _ _ _ _ _ _ _ _ _ _ _ _ _ _ _ _ _ _ _ _ _ _ _ _ _ _ _ _ _ _ _ _ _ _ _ _ _ _ _ _ _ _ _ _ _ _ _ _ _ _ _ _ _ _ _ _ _ _ _ _ _ _ _ _ _ _ _ _ _ _ _ _ _ _ _ _ _ _ _ _ _ _ _ _ _ _ _ _ _ _ _ _ _ _ _ _ _ _ _ _ _ _ _ _ _ _ _ _ _ _ _ _ _ _ _ _ _ _ _ _ _ _ _ _ _ _ _ _ _ _ _ _ _ _ _ _ _ _ _ _ _ _ _ _ _ _ _ _ _ _ _ _ _ _ _ _ _ (hide ?_)
                intro t4 t21 t22 t178 t179 t180 t181 t182 t183 t184 t185 t186 t187 t188 t189 t190 t191 t192 t193 t194 t195 t196 t197 t198 t199 t200 t201 t202 t203 t204 t205 t206 t207 t208 t209 t210 v20 w' a' k' e20 hE' hT' hS'
                go_roundw
                case rel => exact ⟨i + 1, hil, e20, a', k', hE', hT', hS'⟩
                case measure => rw [e20]; simp [intOf]; omega
              · have hin : i = FL.length := by omega
                subst hin
                have HEN := hide (hE.mono (G' := fun j => j = g) (M := m + 14 * (T + 1)) (fun _ h => .inl h) (by omega))
                have HTW := hide hT.1
                have HLN := hide ((unhide HL5).far hS (fun e => e.2 (.inl rfl)))
                have HBN := hide ((unhide HB5).trans (hS.bel (unhide HE5).bx))
                clear hE hT hS HL5 HB5 HE5 HO5
                go_wp2
                go_roundw
                case rel => exact ⟨m, T + 1, hm, by omega, rfl, by go_num, a5, k5, lst FL.length, unhide HEN, unhide HTW, unhide HLN, unhide HBN⟩
                case measure => simp [intOf]; omega
    · go_wp2
      go_ret
      exact ⟨rfl, hB⟩
end Go.Proofs.YtamafdcnbcoegaaGreat
namespace Go.Proofs.YtamafdcnbcoegaaGreat
open Go.ChangeShapes Go.WideShapes Go.ChangeAt Go.RowKit

end Go.Proofs.YtamafdcnbcoegaaGreat
namespace Go.Proofs.YtamafdcnbcoegaaGreat
open Go.ChangeShapes Go.WideShapes Go.ChangeAt Go.RowKit

end Go.Proofs.YtamafdcnbcoegaaGreat
namespace Go.Proofs.YtamafdcnbcoegaaGreat
open Go.ChangeShapes Go.WideShapes Go.ChangeAt Go.RowKit

theorem u64_wf {n : Int} (h : (Lit.int .u64 n).wf = true) : 0 ≤ n ∧ n ≤ 18446744073709551615 := by
  simp only [Lit.wf, Bool.and_eq_true, decide_eq_true_eq] at h
  rw [show IntKind.u64.min = 0 from by decide, show IntKind.u64.max = 18446744073709551615 from by decide] at h
  exact h
/-- A number of 64 bits that came in. -/
theorem open_u64 {H : Type} {enc : TypeId × Value → H} {w : World} {base : Nat} {spare : Nat → Bool} {held : Bool} {v : Value} {d : DataW H} {p : List MemPlace}
    (h : DataW.Trod enc Tryz.prog w base spare held 27 v d p) (hv : ∃ n, v = .int .u64 n) : ∃ n : Int, v = .int .u64 n ∧ 0 ≤ n ∧ n ≤ 18446744073709551615 := by
  obtain ⟨n, rfl⟩ := hv
  obtain ⟨fuel, hf⟩ := h
  have hcs : (Value.int .u64 n).cells.toList = [.int .u64 n] := rfl
  rw [hcs] at hf
  obtain ⟨c, e, _, wf⟩ := DataW.trod_int Tryz.underlying27 hf
  simp at e
  subst e
  exact ⟨n, rfl, u64_wf wf⟩
set_option maxRecDepth 100000 in
theorem windowed_lifted {top : Nat} (C : AgentC top) (D : SinkC) (ht : 1000 ≤ top) (os : Os) (started : os.Started) (H : Type) (enc : TypeId × Value → H) :
    ReturnsInHanded {} Tryz.checked os 7 .any (Rows.windowedSpec.pre6 enc Tryz.prog Tryz.f7 Rows.windowedRow.domain false) (Rows.windowedSpec.post enc Tryz.prog Tryz.f7 false true false false) := by
  refine returnsInHanded_of_change_sized (C := Tryz.checked) Tryz.own started (by kernel_rfl) Tryz.func7
    (ChangeSpec.witness6 (enc := enc) (C := Tryz.checked) false ⟨#[], #[.slice none 0 0, .int .u64 0], []⟩ 8 (by kernel_rfl) (by kernel_rfl) (by kernel_rfl) (by kernel_rfl)) ?_
  intro W base args ds gs before hval0 hW hcnd hsz0 hholds
  have hval : ∀ (j : Nat) t v, Tryz.f7.params[j]? = some t → args[j]? = some v → Value.okWide Tryz.prog W .any base t v := hval0
  have hsz : (DataW.weightsEach Tryz.prog (Tryz.f7.params.toList ++ Rows.windowedSpec.plain.varTypes Tryz.prog) (ds ++ gs)).all (· ≤ reachBytes) = true := hsz0
  have hW' := hW
  obtain ⟨p, q, hA0, hV, rfl, hfz, hnd⟩ := hW
  have hA : DataW.TrodAll enc Tryz.prog W 0 (fun _ => true) true Tryz.f7.params.toList args.toList ds p := hA0
  rw [Tryz.params7] at hA hval hsz
  obtain ⟨v0, vs0, d0, ds0, p0, q0, hargs, rfl, rfl, h0, r0⟩ := trodAll_cons hA
  obtain ⟨v1, vs1, d1, ds1, p1, q1, rfl, rfl, rfl, h1, r1⟩ := trodAll_cons r0
  obtain ⟨rfl, rfl, rfl⟩ := trodAll_nil r1
  obtain rfl : args = #[v0, v1] := by cases args; simp_all
  obtain ⟨rfl, rfl⟩ := trodVars_none hV
  have k0 := h0
  have k1 := h1
  have lt0 : ∀ x ∈ p0, x.block < W.heap.size := by obtain ⟨m, hm⟩ := k0; exact DataW.trod_lt m _ _ _ hm
  have lt1 : ∀ x ∈ p1, x.block < W.heap.size := by obtain ⟨m, hm⟩ := k1; exact DataW.trod_lt m _ _ _ hm
  obtain ⟨ad, len, cap, rfl, hlen, hops⟩ := open_ints h0 (okWide_slice Tryz.underlying26 (hval 0 26 v0 rfl rfl)) (fun n hn => by
    have := List.all_eq_true.1 hsz n (DataW.weights_mem_each (j := 0) rfl rfl n hn)
    simpa using this)
  obtain ⟨n, rfl, hn⟩ := open_u64 h1 (okWide_int Tryz.underlying27 (hval 1 27 v1 rfl rfl))
  clear hA0 hval0 hsz0
  refine (windowed_any C D ht ad len cap n W (by omega) hn hops).mono fun e W' ⟨he, bel⟩ => ?_
  subst he
  exact ⟨_, rfl, _, _, _, [], _, [], hW', trodAll_mk1 (shut_bool Tryz.underlying4 _), (trodAll_cons_mk (Below.trod Tryz.laidOut (by kernel_rfl) (of_decide_eq_true (by kernel_rfl)) k0 bel lt0) (trodAll_cons_mk (Below.trod Tryz.laidOut (by kernel_rfl) (of_decide_eq_true (by kernel_rfl)) k1 bel lt1) trodAll_mk0)), rfl, bel.frame _, fun h => by cases h⟩

/-- P5, P6: what is sent at a tick, for a program's ends that keep their contracts. -/
theorem windowed_holds {top : Nat} (C : AgentC top) (D : SinkC) (ht : 1000 ≤ top) : Rows.WindowedSaid :=
  OpenClaim.holds_of_wide 7 Tryz.f7 rfl rfl rfl rfl rfl rfl rfl ⟨rfl, rfl, rfl, rfl, rfl⟩ rfl rfl rfl rfl rfl (by kernel_rfl) Tryz.func7 (by kernel_rfl)
    (of_decide_eq_true (by kernel_rfl)) (by unfold Func.isWrapper; rw [if_neg (by decide +kernel)]; exact ⟨rfl, rfl⟩)
    (fun os started H enc _ => windowed_lifted C D ht os started H enc)
end Go.Proofs.YtamafdcnbcoegaaGreat
