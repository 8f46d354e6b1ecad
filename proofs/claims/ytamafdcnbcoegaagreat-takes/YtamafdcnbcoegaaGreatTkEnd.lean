/-
  Takes: for every script of the steps that it plays (sinks made on noughts, frames delivered to them, their logs and epochs asked) the program's sinks answer what the document says, and no list that came out or was handed in is changed behind it. No condition.
-/
import Derived.Test.YtamafdcnbcoegaaGreatTk13
namespace Go.Proofs.YtamafdcnbcoegaaGreat

/-- P4, P8, P9: every Deliver, Log and Epoch of any sinks. -/
theorem takes_said : Rows.TakesSaid := takes_holds theSink
end Go.Proofs.YtamafdcnbcoegaaGreat
