/-
  Plain values: the types of this program, comparisons of its structs, trees as plain values.
-/
import Derived.Test.YtopohipcpomecaaDoorProg
import Derived.Test.YtopohipcpomecaaDoorP6
namespace Go.Proofs.YtopohipcpomecaaDoor.Pu
open Go Go.Pv
theorem td_mark : tdOf Tryd.prog 51 = some ⟨true, 3, [.int .i64 0, .int .i64 0, .int .i64 0], .struct [(0, 1, false), (1, 1, false), (2, 1, false)]⟩ := by kernel_rfl
theorem mixed : Tryd.prog.follows .mixedOrders = true := by kernel_rfl
def eqs : TypeId → Option (List CK) := fun t =>
 if t = 26 then some [.int .i64, .int .i64, .int .i64] else if t = 53 then some [.str, .int .i64, .int .i64, .int .i64] else none
end Go.Proofs.YtopohipcpomecaaDoor.Pu
