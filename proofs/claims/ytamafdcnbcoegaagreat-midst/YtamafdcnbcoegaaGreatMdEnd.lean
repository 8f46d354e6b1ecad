/-
  Midst: for every number of records ahead, of records held, every write at which the disk fails and whatever is kept: opened again, the program's sink has what it had and the first of the records held, as far as it came, and when all come once more it has all of them, nothing twice. No condition.
-/
import Derived.Test.YtamafdcnbcoegaaGreatMd18
namespace Go.Proofs.YtamafdcnbcoegaaGreat
theorem midst_said : Rows.MidstSaid := midst_holds theAgent theSinkY theSinkX (by omega)
end Go.Proofs.YtamafdcnbcoegaaGreat
