/-
  Corpus: items and acts as corrected.
-/
import Derived.Test.YtglkpmhamekpmaaWCg
namespace Go.Proofs.Ytglkpmhamekpmaa.Po
open Go Go.Pv Go.RowKit
set_option linter.unusedSimpArgs false
open Lab Lcs Go.Proofs.Ytglkpmhamekpmaa Go.Proofs.Ytglkpmhamekpmaa.Pu
set_option maxRecDepth 10000
set_option maxHeartbeats 32000000
def corF (m : CorM) (n i : Int) (x : It) : It := match lookL m (n, i) with
 | some e => if chB x.kind = true then e.it.bys.headD x else x
 | none => x
def OkC' (m : CorM) : Prop := ∀ n i e, lookL m (n, i) = some e → ∃ y r, e.it.bys = y :: r
end Go.Proofs.Ytglkpmhamekpmaa.Po
