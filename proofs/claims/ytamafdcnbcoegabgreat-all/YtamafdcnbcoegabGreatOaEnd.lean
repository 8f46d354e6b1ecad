/-
  P1 to P10: every call of the program's ends, in every order, on disks that fail at any write, is as the document says, whatever the script, where what comes in is of bulk at most 1048576.
-/
import Derived.Test.YtamafdcnbcoegabGreatOa15
namespace Go.Proofs.YtamafdcnbcoegabGreat
theorem all_said : Rows.AllUptoSaid := all_holds
end Go.Proofs.YtamafdcnbcoegabGreat
