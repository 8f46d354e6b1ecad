/-
  P4 to P7: every Submit, Tick, Deliver, Spool and Epoch of any agents of the program is as the document says, whatever the script, where what comes in is of bulk at most 1048576.
-/
import Derived.Test.YtamafdcnbcoegaaGreatSd16
namespace Go.Proofs.YtamafdcnbcoegaaGreat
theorem sends_said : Rows.SendsUptoSaid := sends_holds theAgent (by omega)
end Go.Proofs.YtamafdcnbcoegaaGreat
