/-
  P4, P10: every Image of the program's ends and every opening of one, of ends whose disks do not fail within a call, and all that is done behind it, is as the document says, whatever the script, where what comes in is of bulk at most 1048576.
-/
import Derived.Test.YtamafdcnbcoegaaGreatOj14
namespace Go.Proofs.YtamafdcnbcoegaaGreat
theorem opens_said : Rows.OpensUptoSaid := opens_holds
end Go.Proofs.YtamafdcnbcoegaaGreat
