/-
  A number of one byte that came in.
-/
import Derived.Test.YtopohipcpomecaaDoorWEo
import Derived.Test.YtopohipcpomecaaDoorWEf
namespace Go.Proofs.YtopohipcpomecaaDoor.Pd
open Go Go.Pv
theorem u8_of {z : Int} (hw : (Lit.int .u8 z).wf = true) : 0 ≤ z ∧ z < 256 := by
 simp [Lit.wf, IntKind.min, IntKind.max, IntKind.signed, IntKind.bits] at hw
 omega
end Go.Proofs.YtopohipcpomecaaDoor.Pd
