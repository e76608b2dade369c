/-
  Plain values: the types of this program, comparisons of its structs, trees as plain values.
-/
import Derived.Test.YtckamfmllkpafaaProg
import Derived.Test.YtckamfmllkpafaaP6
namespace Go.Proofs.Ytckamfmllkpafaa.Pu
open Go Go.Pv
theorem td_mark : tdOf Try.prog 47 = some ⟨true, 3, [.int .i64 0, .int .i64 0, .int .i64 0], .struct [(0, 1, false), (1, 1, false), (2, 1, false)]⟩ := by kernel_rfl
theorem mixed : Try.prog.follows .mixedOrders = true := by kernel_rfl
def eqs : TypeId → Option (List CK) := fun t =>
 if t = 23 then some [.int .i64, .int .i64, .int .i64] else if t = 49 then some [.str, .int .i64, .int .i64, .int .i64] else none
end Go.Proofs.Ytckamfmllkpafaa.Pu
