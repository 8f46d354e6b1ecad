/-
  P5 to P10: whatever has happened, behind any script of acts both ends are opened again if they are dead; then of each two frames that are sent one way at least one comes through: within a thousand ticks each log is all that was taken, and nothing is kept, where what comes in is of bulk at most 1048576.
-/
import Derived.Test.YtamafdcnbcoegabGreatCm22
namespace Go.Proofs.YtamafdcnbcoegabGreat
theorem comes_said : Rows.ComesUptoSaid := comes_holds
end Go.Proofs.YtamafdcnbcoegabGreat
