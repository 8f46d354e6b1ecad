/-
  P11: whatever happens, frames lost, doubled, turned round, noise among them, either end failing at any write and opened again with whatever is kept, of each stream the log is the beginning of what was taken, it never gets shorter, and what was taken is in it or in the spool, where what comes in is of bulk at most 1048576.
-/
import Derived.Test.YtamafdcnbcoegaaGreatSf22
namespace Go.Proofs.YtamafdcnbcoegaaGreat
theorem safe_said : Rows.SafeUptoSaid := safe_holds
end Go.Proofs.YtamafdcnbcoegaaGreat
