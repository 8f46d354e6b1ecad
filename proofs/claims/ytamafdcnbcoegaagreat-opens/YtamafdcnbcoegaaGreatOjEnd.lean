/-
  P4, P10: every Image, every opening of one, and all that is done behind it, on disks that do not fail within a call, is as the document says, for every script of bulk at most 1048576.
-/
import Derived.Test.YtamafdcnbcoegaaGreatOj14
namespace Go.Proofs.YtamafdcnbcoegaaGreat
theorem opens_said : Rows.OpensUptoSaid := opens_holds
end Go.Proofs.YtamafdcnbcoegaaGreat
