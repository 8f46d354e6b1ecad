/-
  No cell of these rows narrows 'for every input' (looked for: loops, veiled, ifaces, maps, wideKeys, modest, calm, conditions, laid).
  DERIVED. THE GIVEN ROWS OF THIS SEAT. 11 by the template 'for every input the law returns true; each argument reads behind the call as it read before'; 0 by the template 'total and deterministic' (their statements: YtamafdcnbcoegaaGreatTotals.lean).
  GIVEN WITH THE SEED: the statements are not yours to turn. If you find one false, say at which input.
  Laid BY PROGRAM, IN A SANDBOX (cutbox-rows.mjs): the forced cells as the released guide's own fill.sh prints them over the translation 591c0cf9511d93e6… (all of the seat's roots in one cut). By AI agents, Wed Nov 11 2026. No macro, syntax, notation, axiom, sorry.
-/
import Derived.Test.YtamafdcnbcoegaaGreatChecked
import GoSem.Claim
import GoSem.ClaimJoined
import GoSem.ClaimMapViews
import Derived.JoinedTies
import Derived.KernelRfl
namespace Go.Proofs.YtamafdcnbcoegaaGreat
/- THE CELL 'sum', in the pinned program and in every row, IS THE sha256 OF THE DUMP (.gsa) THAT YtamafdcnbcoegaaGreatProg.lean LOADS. Nothing in Lean hashes anything: it is a label: what it is worth is what the hold of that sum in a sandbox is worth. -/
noncomputable def Tryz.pinned : Pinned := { name := "ytamafdcnbcoegaagreat", sum := "591c0cf9511d93e6b3712ccb94b058cfd6b4e3f63e823486a5b5faab037e60ab", checked := Tryz.checked }
namespace Rows
def none {H : Type} : Left H := { results := [], args := [] }

/-- 'courierlaw.Codes': WHATEVER THE INPUT: true; the input reads as it did. -/
def codesSpec : ChangeSpec := { name := "codes", fn := fun _ => fun
  | [d] => { results := [.lit (.bool true)], args := [d] }
  | _ => none }
def codesRow : OpenClaim := { program := "ytamafdcnbcoegaagreat", sum := "591c0cf9511d93e6b3712ccb94b058cfd6b4e3f63e823486a5b5faab037e60ab", func := "courier/courierlaw.Codes", spec := "codes", inPlace := ["slices.overlaps[int]"], unfollowed := true, recurses := true, apart := false }
def CodesSaid : Prop := codesRow.holds Tryz.pinned (OpenSpec.ofChange codesSpec)

/-- ITS FALSE NEIGHBOUR: 'it returns false'. Refute it at one input. -/
def codesWrong : ChangeSpec := { name := "codes", fn := fun _ => fun
  | [d] => { results := [.lit (.bool false)], args := [d] }
  | _ => none }
def CodesWrongFalsely : Prop := codesRow.holds Tryz.pinned (OpenSpec.ofChange codesWrong)

/-- 'courierlaw.Sends': WHATEVER THE INPUT: true; the input reads as it did. -/
def sendsSpec : ChangeSpec := { name := "sends", fn := fun _ => fun
  | [d] => { results := [.lit (.bool true)], args := [d] }
  | _ => none }
def sendsRow : OpenClaim := { program := "ytamafdcnbcoegaagreat", sum := "591c0cf9511d93e6b3712ccb94b058cfd6b4e3f63e823486a5b5faab037e60ab", func := "courier/courierlaw.Sends", spec := "sends", inPlace := ["slices.overlaps[int]"], unfollowed := true, recurses := true, apart := false }
def SendsSaid : Prop := sendsRow.holds Tryz.pinned (OpenSpec.ofChange sendsSpec)

/-- ITS FALSE NEIGHBOUR: 'it returns false'. Refute it at one input. -/
def sendsWrong : ChangeSpec := { name := "sends", fn := fun _ => fun
  | [d] => { results := [.lit (.bool false)], args := [d] }
  | _ => none }
def SendsWrongFalsely : Prop := sendsRow.holds Tryz.pinned (OpenSpec.ofChange sendsWrong)

/-- 'courierlaw.Takes': WHATEVER THE INPUT: true; the input reads as it did. -/
def takesSpec : ChangeSpec := { name := "takes", fn := fun _ => fun
  | [d] => { results := [.lit (.bool true)], args := [d] }
  | _ => none }
def takesRow : OpenClaim := { program := "ytamafdcnbcoegaagreat", sum := "591c0cf9511d93e6b3712ccb94b058cfd6b4e3f63e823486a5b5faab037e60ab", func := "courier/courierlaw.Takes", spec := "takes", inPlace := ["slices.overlaps[int]"], unfollowed := true, recurses := true, apart := false }
def TakesSaid : Prop := takesRow.holds Tryz.pinned (OpenSpec.ofChange takesSpec)

/-- ITS FALSE NEIGHBOUR: 'it returns false'. Refute it at one input. -/
def takesWrong : ChangeSpec := { name := "takes", fn := fun _ => fun
  | [d] => { results := [.lit (.bool false)], args := [d] }
  | _ => none }
def TakesWrongFalsely : Prop := takesRow.holds Tryz.pinned (OpenSpec.ofChange takesWrong)

/-- 'courierlaw.Opens': WHATEVER THE INPUT: true; the input reads as it did. -/
def opensSpec : ChangeSpec := { name := "opens", fn := fun _ => fun
  | [d] => { results := [.lit (.bool true)], args := [d] }
  | _ => none }
def opensRow : OpenClaim := { program := "ytamafdcnbcoegaagreat", sum := "591c0cf9511d93e6b3712ccb94b058cfd6b4e3f63e823486a5b5faab037e60ab", func := "courier/courierlaw.Opens", spec := "opens", inPlace := ["slices.overlaps[int]"], unfollowed := true, recurses := true, apart := false }
def OpensSaid : Prop := opensRow.holds Tryz.pinned (OpenSpec.ofChange opensSpec)

/-- ITS FALSE NEIGHBOUR: 'it returns false'. Refute it at one input. -/
def opensWrong : ChangeSpec := { name := "opens", fn := fun _ => fun
  | [d] => { results := [.lit (.bool false)], args := [d] }
  | _ => none }
def OpensWrongFalsely : Prop := opensRow.holds Tryz.pinned (OpenSpec.ofChange opensWrong)

/-- 'courierkeep.Windowed': WHATEVER THE INPUT: true; the input reads as it did. -/
def windowedSpec : ChangeSpec := { name := "windowed", fn := fun _ => fun
  | [d1, d2] => { results := [.lit (.bool true)], args := [d1, d2] }
  | _ => none }
def windowedRow : OpenClaim := { program := "ytamafdcnbcoegaagreat", sum := "591c0cf9511d93e6b3712ccb94b058cfd6b4e3f63e823486a5b5faab037e60ab", func := "courier/courierkeep.Windowed", spec := "windowed", inPlace := ["slices.overlaps[int]"], unfollowed := true, recurses := true, apart := false }
def WindowedSaid : Prop := windowedRow.holds Tryz.pinned (OpenSpec.ofChange windowedSpec)

/-- ITS FALSE NEIGHBOUR: 'it returns false'. Refute it at one input. -/
def windowedWrong : ChangeSpec := { name := "windowed", fn := fun _ => fun
  | [d1, d2] => { results := [.lit (.bool false)], args := [d1, d2] }
  | _ => none }
def WindowedWrongFalsely : Prop := windowedRow.holds Tryz.pinned (OpenSpec.ofChange windowedWrong)

/-- 'courierkeep.Noise': WHATEVER THE INPUT: true; the input reads as it did. -/
def noiseSpec : ChangeSpec := { name := "noise", fn := fun _ => fun
  | [d1, d2] => { results := [.lit (.bool true)], args := [d1, d2] }
  | _ => none }
def noiseRow : OpenClaim := { program := "ytamafdcnbcoegaagreat", sum := "591c0cf9511d93e6b3712ccb94b058cfd6b4e3f63e823486a5b5faab037e60ab", func := "courier/courierkeep.Noise", spec := "noise", inPlace := ["slices.overlaps[int]"], unfollowed := true, recurses := true, apart := false }
def NoiseSaid : Prop := noiseRow.holds Tryz.pinned (OpenSpec.ofChange noiseSpec)

/-- ITS FALSE NEIGHBOUR: 'it returns false'. Refute it at one input. -/
def noiseWrong : ChangeSpec := { name := "noise", fn := fun _ => fun
  | [d1, d2] => { results := [.lit (.bool false)], args := [d1, d2] }
  | _ => none }
def NoiseWrongFalsely : Prop := noiseRow.holds Tryz.pinned (OpenSpec.ofChange noiseWrong)

/-- 'courierkeep.Fails': WHATEVER THE INPUT: true; the input reads as it did. -/
def failsSpec : ChangeSpec := { name := "fails", fn := fun _ => fun
  | [d1, d2] => { results := [.lit (.bool true)], args := [d1, d2] }
  | _ => none }
def failsRow : OpenClaim := { program := "ytamafdcnbcoegaagreat", sum := "591c0cf9511d93e6b3712ccb94b058cfd6b4e3f63e823486a5b5faab037e60ab", func := "courier/courierkeep.Fails", spec := "fails", inPlace := ["slices.overlaps[int]"], unfollowed := true, recurses := true, apart := false }
def FailsSaid : Prop := failsRow.holds Tryz.pinned (OpenSpec.ofChange failsSpec)

/-- ITS FALSE NEIGHBOUR: 'it returns false'. Refute it at one input. -/
def failsWrong : ChangeSpec := { name := "fails", fn := fun _ => fun
  | [d1, d2] => { results := [.lit (.bool false)], args := [d1, d2] }
  | _ => none }
def FailsWrongFalsely : Prop := failsRow.holds Tryz.pinned (OpenSpec.ofChange failsWrong)

/-- 'courierkeep.Midst': WHATEVER THE INPUT: true; the input reads as it did. -/
def midstSpec : ChangeSpec := { name := "midst", fn := fun _ => fun
  | [d1, d2, d3, d4] => { results := [.lit (.bool true)], args := [d1, d2, d3, d4] }
  | _ => none }
def midstRow : OpenClaim := { program := "ytamafdcnbcoegaagreat", sum := "591c0cf9511d93e6b3712ccb94b058cfd6b4e3f63e823486a5b5faab037e60ab", func := "courier/courierkeep.Midst", spec := "midst", inPlace := ["slices.overlaps[int]"], unfollowed := true, recurses := true, apart := false }
def MidstSaid : Prop := midstRow.holds Tryz.pinned (OpenSpec.ofChange midstSpec)

/-- ITS FALSE NEIGHBOUR: 'it returns false'. Refute it at one input. -/
def midstWrong : ChangeSpec := { name := "midst", fn := fun _ => fun
  | [d1, d2, d3, d4] => { results := [.lit (.bool false)], args := [d1, d2, d3, d4] }
  | _ => none }
def MidstWrongFalsely : Prop := midstRow.holds Tryz.pinned (OpenSpec.ofChange midstWrong)

/-- 'courierkeep.Fenced': WHATEVER THE INPUT: true; the input reads as it did. -/
def fencedSpec : ChangeSpec := { name := "fenced", fn := fun _ => fun
  | [d1, d2] => { results := [.lit (.bool true)], args := [d1, d2] }
  | _ => none }
def fencedRow : OpenClaim := { program := "ytamafdcnbcoegaagreat", sum := "591c0cf9511d93e6b3712ccb94b058cfd6b4e3f63e823486a5b5faab037e60ab", func := "courier/courierkeep.Fenced", spec := "fenced", inPlace := ["slices.overlaps[int]"], unfollowed := true, recurses := true, apart := false }
def FencedSaid : Prop := fencedRow.holds Tryz.pinned (OpenSpec.ofChange fencedSpec)

/-- ITS FALSE NEIGHBOUR: 'it returns false'. Refute it at one input. -/
def fencedWrong : ChangeSpec := { name := "fenced", fn := fun _ => fun
  | [d1, d2] => { results := [.lit (.bool false)], args := [d1, d2] }
  | _ => none }
def FencedWrongFalsely : Prop := fencedRow.holds Tryz.pinned (OpenSpec.ofChange fencedWrong)

/-- 'courierkeep.Full': WHATEVER THE INPUT: true; the input reads as it did. -/
def fullSpec : ChangeSpec := { name := "full", fn := fun _ => fun
  | [d1, d2] => { results := [.lit (.bool true)], args := [d1, d2] }
  | _ => none }
def fullRow : OpenClaim := { program := "ytamafdcnbcoegaagreat", sum := "591c0cf9511d93e6b3712ccb94b058cfd6b4e3f63e823486a5b5faab037e60ab", func := "courier/courierkeep.Full", spec := "full", inPlace := ["slices.overlaps[int]"], unfollowed := true, recurses := true, apart := false }
def FullSaid : Prop := fullRow.holds Tryz.pinned (OpenSpec.ofChange fullSpec)

/-- ITS FALSE NEIGHBOUR: 'it returns false'. Refute it at one input. -/
def fullWrong : ChangeSpec := { name := "full", fn := fun _ => fun
  | [d1, d2] => { results := [.lit (.bool false)], args := [d1, d2] }
  | _ => none }
def FullWrongFalsely : Prop := fullRow.holds Tryz.pinned (OpenSpec.ofChange fullWrong)

/-- 'courierkeep.Safe': WHATEVER THE INPUT: true; the input reads as it did. -/
def safeSpec : ChangeSpec := { name := "safe", fn := fun _ => fun
  | [d] => { results := [.lit (.bool true)], args := [d] }
  | _ => none }
def safeRow : OpenClaim := { program := "ytamafdcnbcoegaagreat", sum := "591c0cf9511d93e6b3712ccb94b058cfd6b4e3f63e823486a5b5faab037e60ab", func := "courier/courierkeep.Safe", spec := "safe", inPlace := ["slices.overlaps[int]"], unfollowed := true, recurses := true, apart := false }
def SafeSaid : Prop := safeRow.holds Tryz.pinned (OpenSpec.ofChange safeSpec)

/-- ITS FALSE NEIGHBOUR: 'it returns false'. Refute it at one input. -/
def safeWrong : ChangeSpec := { name := "safe", fn := fun _ => fun
  | [d] => { results := [.lit (.bool false)], args := [d] }
  | _ => none }
def SafeWrongFalsely : Prop := safeRow.holds Tryz.pinned (OpenSpec.ofChange safeWrong)

/- THE SECOND FORM. 'bulk': how many values and letters a reading holds, each counted each time it is reached (what is shared counts as often as it is met; a slice's spare places count too). A statement '..UptoSaid' is the law's where the arguments, and the package variables that the reading takes, are together of bulk at most 1048576: NARROWER than '..Said'. Prove '..Said' where nothing that the law and all that it calls make is longer than what came in: it says more and counts as full. Else prove '..UptoSaid'. A law counts once. -/
mutual
def uptoBulk {H : Type} : DataW H → Nat
  | .lit (.string bytes) => bytes.length + 1
  | .lit _ => 1
  | .nil => 1
  | .ptr d => uptoBulk d + 1
  | .slice elems spare => uptoBulkAll elems + uptoBulkAll spare + 1
  | .agg parts => uptoBulkAll parts + 1
  | .iface _ d => uptoBulk d + 1
  | .map entries => uptoBulkEntries entries + 1
  | .held _ => 1
def uptoBulkAll {H : Type} : List (DataW H) → Nat
  | [] => 0
  | d :: r => uptoBulk d + uptoBulkAll r
def uptoBulkEntries {H : Type} : List (Lit × DataW H) → Nat
  | [] => 0
  | x :: r => uptoBulkEntry x + uptoBulkEntries r
def uptoBulkEntry {H : Type} : Lit × DataW H → Nat
  | (.string bytes, d) => bytes.length + uptoBulk d + 1
  | (_, d) => uptoBulk d + 1
 end
def uptoSmall : (H : Type) → List (DataW H) → Bool := fun _ ds => decide (uptoBulkAll ds ≤ 1048576)
def OpenSpec.upto (s : _root_.Go.ChangeSpec) : _root_.Go.OpenSpec := { _root_.Go.OpenSpec.ofChange s with cond := some uptoSmall }

/-- 'courierlaw.Codes', WHERE WHAT IT READS IS OF BULK AT MOST 1048576: true; the input reads as it did. -/
def codesUptoRow : OpenClaim := { program := "ytamafdcnbcoegaagreat", sum := "591c0cf9511d93e6b3712ccb94b058cfd6b4e3f63e823486a5b5faab037e60ab", func := "courier/courierlaw.Codes", spec := "codes", inPlace := ["slices.overlaps[int]"], unfollowed := true, recurses := true, apart := false, narrowed := true }
def CodesUptoSaid : Prop := codesUptoRow.holds Tryz.pinned (OpenSpec.upto codesSpec)

/-- 'courierlaw.Sends', WHERE WHAT IT READS IS OF BULK AT MOST 1048576: true; the input reads as it did. -/
def sendsUptoRow : OpenClaim := { program := "ytamafdcnbcoegaagreat", sum := "591c0cf9511d93e6b3712ccb94b058cfd6b4e3f63e823486a5b5faab037e60ab", func := "courier/courierlaw.Sends", spec := "sends", inPlace := ["slices.overlaps[int]"], unfollowed := true, recurses := true, apart := false, narrowed := true }
def SendsUptoSaid : Prop := sendsUptoRow.holds Tryz.pinned (OpenSpec.upto sendsSpec)

/-- 'courierlaw.Takes', WHERE WHAT IT READS IS OF BULK AT MOST 1048576: true; the input reads as it did. -/
def takesUptoRow : OpenClaim := { program := "ytamafdcnbcoegaagreat", sum := "591c0cf9511d93e6b3712ccb94b058cfd6b4e3f63e823486a5b5faab037e60ab", func := "courier/courierlaw.Takes", spec := "takes", inPlace := ["slices.overlaps[int]"], unfollowed := true, recurses := true, apart := false, narrowed := true }
def TakesUptoSaid : Prop := takesUptoRow.holds Tryz.pinned (OpenSpec.upto takesSpec)

/-- 'courierlaw.Opens', WHERE WHAT IT READS IS OF BULK AT MOST 1048576: true; the input reads as it did. -/
def opensUptoRow : OpenClaim := { program := "ytamafdcnbcoegaagreat", sum := "591c0cf9511d93e6b3712ccb94b058cfd6b4e3f63e823486a5b5faab037e60ab", func := "courier/courierlaw.Opens", spec := "opens", inPlace := ["slices.overlaps[int]"], unfollowed := true, recurses := true, apart := false, narrowed := true }
def OpensUptoSaid : Prop := opensUptoRow.holds Tryz.pinned (OpenSpec.upto opensSpec)

/-- 'courierkeep.Windowed', WHERE WHAT IT READS IS OF BULK AT MOST 1048576: true; the input reads as it did. -/
def windowedUptoRow : OpenClaim := { program := "ytamafdcnbcoegaagreat", sum := "591c0cf9511d93e6b3712ccb94b058cfd6b4e3f63e823486a5b5faab037e60ab", func := "courier/courierkeep.Windowed", spec := "windowed", inPlace := ["slices.overlaps[int]"], unfollowed := true, recurses := true, apart := false, narrowed := true }
def WindowedUptoSaid : Prop := windowedUptoRow.holds Tryz.pinned (OpenSpec.upto windowedSpec)

/-- 'courierkeep.Noise', WHERE WHAT IT READS IS OF BULK AT MOST 1048576: true; the input reads as it did. -/
def noiseUptoRow : OpenClaim := { program := "ytamafdcnbcoegaagreat", sum := "591c0cf9511d93e6b3712ccb94b058cfd6b4e3f63e823486a5b5faab037e60ab", func := "courier/courierkeep.Noise", spec := "noise", inPlace := ["slices.overlaps[int]"], unfollowed := true, recurses := true, apart := false, narrowed := true }
def NoiseUptoSaid : Prop := noiseUptoRow.holds Tryz.pinned (OpenSpec.upto noiseSpec)

/-- 'courierkeep.Fails', WHERE WHAT IT READS IS OF BULK AT MOST 1048576: true; the input reads as it did. -/
def failsUptoRow : OpenClaim := { program := "ytamafdcnbcoegaagreat", sum := "591c0cf9511d93e6b3712ccb94b058cfd6b4e3f63e823486a5b5faab037e60ab", func := "courier/courierkeep.Fails", spec := "fails", inPlace := ["slices.overlaps[int]"], unfollowed := true, recurses := true, apart := false, narrowed := true }
def FailsUptoSaid : Prop := failsUptoRow.holds Tryz.pinned (OpenSpec.upto failsSpec)

/-- 'courierkeep.Midst', WHERE WHAT IT READS IS OF BULK AT MOST 1048576: true; the input reads as it did. -/
def midstUptoRow : OpenClaim := { program := "ytamafdcnbcoegaagreat", sum := "591c0cf9511d93e6b3712ccb94b058cfd6b4e3f63e823486a5b5faab037e60ab", func := "courier/courierkeep.Midst", spec := "midst", inPlace := ["slices.overlaps[int]"], unfollowed := true, recurses := true, apart := false, narrowed := true }
def MidstUptoSaid : Prop := midstUptoRow.holds Tryz.pinned (OpenSpec.upto midstSpec)

/-- 'courierkeep.Fenced', WHERE WHAT IT READS IS OF BULK AT MOST 1048576: true; the input reads as it did. -/
def fencedUptoRow : OpenClaim := { program := "ytamafdcnbcoegaagreat", sum := "591c0cf9511d93e6b3712ccb94b058cfd6b4e3f63e823486a5b5faab037e60ab", func := "courier/courierkeep.Fenced", spec := "fenced", inPlace := ["slices.overlaps[int]"], unfollowed := true, recurses := true, apart := false, narrowed := true }
def FencedUptoSaid : Prop := fencedUptoRow.holds Tryz.pinned (OpenSpec.upto fencedSpec)

/-- 'courierkeep.Full', WHERE WHAT IT READS IS OF BULK AT MOST 1048576: true; the input reads as it did. -/
def fullUptoRow : OpenClaim := { program := "ytamafdcnbcoegaagreat", sum := "591c0cf9511d93e6b3712ccb94b058cfd6b4e3f63e823486a5b5faab037e60ab", func := "courier/courierkeep.Full", spec := "full", inPlace := ["slices.overlaps[int]"], unfollowed := true, recurses := true, apart := false, narrowed := true }
def FullUptoSaid : Prop := fullUptoRow.holds Tryz.pinned (OpenSpec.upto fullSpec)

/-- 'courierkeep.Safe', WHERE WHAT IT READS IS OF BULK AT MOST 1048576: true; the input reads as it did. -/
def safeUptoRow : OpenClaim := { program := "ytamafdcnbcoegaagreat", sum := "591c0cf9511d93e6b3712ccb94b058cfd6b4e3f63e823486a5b5faab037e60ab", func := "courier/courierkeep.Safe", spec := "safe", inPlace := ["slices.overlaps[int]"], unfollowed := true, recurses := true, apart := false, narrowed := true }
def SafeUptoSaid : Prop := safeUptoRow.holds Tryz.pinned (OpenSpec.upto safeSpec)

end Rows
end Go.Proofs.YtamafdcnbcoegaaGreat
