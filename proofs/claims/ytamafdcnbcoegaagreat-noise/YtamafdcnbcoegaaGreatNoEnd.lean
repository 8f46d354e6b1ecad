/-
  Noise: for every number of records and every list of texts, bytes that are no frame are refused by both ends of the program, answer nothing, leave both disks as they were, and change nothing of what is sent, answered and committed afterwards. No condition.
-/
import Derived.Test.YtamafdcnbcoegaaGreatNoX
namespace Go.Proofs.YtamafdcnbcoegaaGreat
theorem noise_said : Rows.NoiseSaid := noise_holds theAgent theSink theNoise (by omega)
end Go.Proofs.YtamafdcnbcoegaaGreat
