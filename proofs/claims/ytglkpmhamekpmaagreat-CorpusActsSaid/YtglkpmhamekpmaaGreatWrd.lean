/-
  Words.
-/
import Derived.Test.YtglkpmhamekpmaaGreatP7
import Derived.Test.YtglkpmhamekpmaaGreatProg
import Derived.Test.YtglkpmhamekpmaaGreatLab
import Derived.Test.YtglkpmhamekpmaaGreatLcs
namespace Go.Proofs.YtglkpmhamekpmaaGreat
open Lcs
def okB (b : UInt8) : Bool := decide (33 ≤ b.toNat ∧ b.toNat ≤ 126)
end Go.Proofs.YtglkpmhamekpmaaGreat
