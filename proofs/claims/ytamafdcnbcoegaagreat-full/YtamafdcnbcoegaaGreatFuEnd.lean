/-
  Full: for every choice of the streams and of the number of ticks the program's agent takes 24 records, refuses the next, refuses a stream that isn't and a body too long, keeps all that it took, and has room again once the sink has spoken. No condition.
-/
import Derived.Test.YtamafdcnbcoegaaGreatFu14
namespace Go.Proofs.YtamafdcnbcoegaaGreat
theorem full_said : Rows.FullSaid := full_holds theAgent theSink (by omega)
end Go.Proofs.YtamafdcnbcoegaaGreat
