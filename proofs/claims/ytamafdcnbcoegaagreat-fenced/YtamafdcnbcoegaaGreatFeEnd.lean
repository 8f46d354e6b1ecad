/-
  Fenced: for every number of records before and behind, an agent of the program whose disk was opened again is told so as soon as the new one has said hello: what it sends then changes nothing, with the answer it falls silent, and the new one carries on till all is committed and nothing is kept. No condition.
-/
import Derived.Test.YtamafdcnbcoegaaGreatFe18
namespace Go.Proofs.YtamafdcnbcoegaaGreat
theorem fenced_said : Rows.FencedSaid := fenced_holds theAgentD theSinkY (by omega)
end Go.Proofs.YtamafdcnbcoegaaGreat
