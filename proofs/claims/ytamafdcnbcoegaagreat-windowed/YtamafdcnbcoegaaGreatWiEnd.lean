/-
  Windowed: at every tick the program's agent sends, of each stream, among the first four records of its spool, each once, in their order, and none that it sent at the last three ticks. No condition.
-/
import Derived.Test.YtamafdcnbcoegaaGreatWiX
namespace Go.Proofs.YtamafdcnbcoegaaGreat
theorem windowed_said : Rows.WindowedSaid := windowed_holds theAgent theSink (by omega)
end Go.Proofs.YtamafdcnbcoegaaGreat
