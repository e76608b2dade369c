/-
  Words.
-/
import Derived.Test.YtglkpmhamekpmaaP7
import Derived.Test.YtglkpmhamekpmaaProg
import Derived.Test.YtglkpmhamekpmaaLab
import Derived.Test.YtglkpmhamekpmaaLcs
namespace Go.Proofs.Ytglkpmhamekpmaa
open Lcs
def okB (b : UInt8) : Bool := decide (33 ≤ b.toNat ∧ b.toNat ≤ 126)
end Go.Proofs.Ytglkpmhamekpmaa
