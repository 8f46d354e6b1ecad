/-
  Fails: for every number of records before and whatever is kept: with the next write armed, the next record fails at an agent and at a sink of the program, both are dead then, and opened again they have what was lasting; an Arm that is taken back does nothing. No condition.
-/
import Derived.Test.YtamafdcnbcoegaaGreatFl14
namespace Go.Proofs.YtamafdcnbcoegaaGreat
theorem fails_said : Rows.FailsSaid := fails_holds theAgentF theSinkX
end Go.Proofs.YtamafdcnbcoegaaGreat
