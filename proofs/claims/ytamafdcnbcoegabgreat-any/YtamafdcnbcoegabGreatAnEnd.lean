/-
  Any: any bytes at all as a disk are refused, or an end comes of them that has no more than may be, and works, and has it still when it is opened again. No condition.
-/
import Derived.Test.YtamafdcnbcoegabGreatAn17
namespace Go.Proofs.YtamafdcnbcoegabGreat
theorem any_said : Rows.AnySaid := any_holds theAgent theSinkY (by omega)
end Go.Proofs.YtamafdcnbcoegabGreat
