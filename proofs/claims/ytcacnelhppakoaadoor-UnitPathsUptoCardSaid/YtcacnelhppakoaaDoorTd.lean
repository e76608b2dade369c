/-
  Plain values: the types of this program, comparisons of its structs, trees as plain values.
-/
import Derived.Test.YtcacnelhppakoaaDoorProg
import Derived.Test.YtcacnelhppakoaaDoorP5
namespace Go.Proofs.YtcacnelhppakoaaDoor.Pu
open Go Go.Pv

theorem td_int : tdOf Tryd.prog 3 = some ⟨false, 1, [.int .i64 0], .int .i64⟩ := by kernel_rfl
theorem td_str : tdOf Tryd.prog 9 = some ⟨false, 1, [.str ⟨#[]⟩], .str⟩ := by kernel_rfl
theorem td_bool : tdOf Tryd.prog 4 = some ⟨false, 1, [.bool false], .bool⟩ := by kernel_rfl
theorem td_id : tdOf Tryd.prog 23 = some ⟨true, 3, [.int .i64 0, .int .i64 0, .int .i64 0], .struct [(0, 1, false), (1, 1, false), (2, 1, false)]⟩ := by kernel_rfl
theorem td_mark : tdOf Tryd.prog 47 = some ⟨true, 3, [.int .i64 0, .int .i64 0, .int .i64 0], .struct [(0, 1, false), (1, 1, false), (2, 1, false)]⟩ := by kernel_rfl
theorem td_word : tdOf Tryd.prog 49 = some ⟨true, 4, [.str ⟨#[]⟩, .int .i64 0, .int .i64 0, .int .i64 0], .struct [(0, 1, false), (1, 3, true)]⟩ := by kernel_rfl
theorem td_unit : tdOf Tryd.prog 27 = some ⟨true, 8, [.int .i64 0, .int .i64 0, .int .i64 0, .int .i64 0, .str ⟨#[]⟩, .nil, .nil, .nil], .struct [(0, 3, true), (3, 1, false), (4, 1, false), (5, 1, false), (6, 1, false), (7, 1, false)]⟩ := by kernel_rfl
theorem td_units : tdOf Tryd.prog 25 = some ⟨false, 1, [.nil], .slice 27 8 120⟩ := by kernel_rfl
theorem td_words : tdOf Tryd.prog 24 = some ⟨false, 1, [.nil], .slice 49 4 40⟩ := by kernel_rfl
theorem td_ids : tdOf Tryd.prog 40 = some ⟨false, 1, [.nil], .slice 23 3 24⟩ := by kernel_rfl
theorem mixed : Tryd.prog.follows .mixedOrders = true := by kernel_rfl
def eqs : TypeId → Option (List CK) := fun t =>
  if t = 23 then some [.int .i64, .int .i64, .int .i64] else if t = 49 then some [.str, .int .i64, .int .i64, .int .i64] else none
end Go.Proofs.YtcacnelhppakoaaDoor.Pu
