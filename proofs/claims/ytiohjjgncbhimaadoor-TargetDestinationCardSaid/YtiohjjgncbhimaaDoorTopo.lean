/-
  How trees that came in lie in memory: words, units.
-/
import Derived.Deep.Slices
import Derived.ChangeSame
import Derived.ProofKit
import Derived.SizedLaws
import Derived.OpenShut
import Derived.Test.YtiohjjgncbhimaaDoorDep
namespace Go.Proofs.YtiohjjgncbhimaaDoor
open Go.ChangeShapes Go.WideShapes Go.ChangeAt Go.RowKit
open Lcs
instance : Inhabited Wd := ⟨⟨ByteArray.empty, ⟨0, 0, 0⟩⟩⟩
instance : Inhabited Ut := ⟨.mk ⟨0, 0, 0⟩ 0 ByteArray.empty [] [] []⟩
section
variable {H : Type} {enc : TypeId × Value → H} {W : World}
end
end Go.Proofs.YtiohjjgncbhimaaDoor
