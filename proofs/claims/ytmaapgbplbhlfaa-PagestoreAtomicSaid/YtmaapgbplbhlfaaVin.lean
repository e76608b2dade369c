/-
  Numbers that came in.
-/
import Derived.Test.YtmaapgbplbhlfaaM4
namespace Go.Proofs.Ytmaapgbplbhlfaa.Pu
open Go Go.Pv
set_option linter.unusedSimpArgs false

theorem in64_wf {z : Int} (h : (Lit.int .i64 z).wf = true) : in64 z := by simpa [in64, Lit.wf, IntKind.min, IntKind.max, IntKind.signed, IntKind.bits] using h
end Go.Proofs.Ytmaapgbplbhlfaa.Pu
