/-
  The law of lines, for arguments that came in.
-/
import Derived.Test.YtaciihgejkhlnaaTo
import Derived.Test.YtaciihgejkhlnaaWCo
namespace Go.Proofs.Ytaciihgejkhlnaa.Pt
open Go Go.Pv Go.Proofs.Ytaciihgejkhlnaa Go.Proofs.Ytaciihgejkhlnaa.Pu
open Lab Lcs Go.Proofs.Ytaciihgejkhlnaa Go.RowKit Go.Proofs.Ytaciihgejkhlnaa.Pb
theorem tlinesL (u : Ut) (_ : Fit u) : PC Try.prog env0 5 [uv u] [.bool true] := tlines_pc u
end Go.Proofs.Ytaciihgejkhlnaa.Pt
