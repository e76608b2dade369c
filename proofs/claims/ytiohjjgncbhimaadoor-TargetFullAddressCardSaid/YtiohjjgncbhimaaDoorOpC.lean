/-
  The law of TargetFullAddress, of an argument that came in.
-/
import Derived.Test.YtiohjjgncbhimaaDoorWKo
import Derived.Test.YtiohjjgncbhimaaDoorWAop
namespace Go.Proofs.YtiohjjgncbhimaaDoor.Pk
open Go Go.Pv Go.Proofs.YtiohjjgncbhimaaDoor.Pu Go.Proofs.YtiohjjgncbhimaaDoor.Pa
open Lab Lcs Go.Proofs.YtiohjjgncbhimaaDoor Go.RowKit
theorem fulL (u : Ut) (h : Fit u) : PC Tryd.prog Pu.envU 6 [uv u] [.bool true] := lawFull u h.ok
end Go.Proofs.YtiohjjgncbhimaaDoor.Pk
