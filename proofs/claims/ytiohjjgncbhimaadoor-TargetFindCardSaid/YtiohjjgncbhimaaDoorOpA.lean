/-
  The laws of TargetInsertionPoint and TargetFind, of arguments that came in.
-/
import Derived.Test.YtiohjjgncbhimaaDoorWAop
import Derived.Test.YtiohjjgncbhimaaDoorWKp
namespace Go.Proofs.YtiohjjgncbhimaaDoor.Pk
open Go Go.Pv Go.Proofs.YtiohjjgncbhimaaDoor.Pu Go.Proofs.YtiohjjgncbhimaaDoor.Pa
open Lab Lcs Go.Proofs.YtiohjjgncbhimaaDoor Go.RowKit
theorem insL (u : Ut) (h : Fit u) (p : List Stp) (hp : p.length ≤ maxLen ∧ ∀ s ∈ p, inI s.kind ∧ s.label.size ≤ maxLen) (z : Int) : PC Tryd.prog Pu.envU 4 [uv u, .sl 2 (p.map spv), .int .i64 z] [.bool true] := lawIns u p z h.ok hp.1
theorem fndL (u : Ut) (h : Fit u) (x : It) (hx : FitI x) : PC Tryd.prog Pu.envU 3 [uv u, itv x] [.bool true] := lawFind u x h.ok hx
end Go.Proofs.YtiohjjgncbhimaaDoor.Pk
