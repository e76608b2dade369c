/-
  The law of Format, ColumnWidths and Column, for arguments that came in.
-/
import Derived.Test.YtaciihgejkhlnaaTo
import Derived.Test.YtaciihgejkhlnaaWCm
namespace Go.Proofs.Ytaciihgejkhlnaa.Pt
open Go Go.Pv Go.Proofs.Ytaciihgejkhlnaa Go.Proofs.Ytaciihgejkhlnaa.Pu
open Lab Lcs Go.Proofs.Ytaciihgejkhlnaa Go.RowKit Go.Proofs.Ytaciihgejkhlnaa.Pb
theorem tformatL (u : Ut) (_ : Fit u) (c : Int) : PC Try.prog env0 4 [uv u, .int .i64 c] [.bool true] := tformat_pc u c
end Go.Proofs.Ytaciihgejkhlnaa.Pt
