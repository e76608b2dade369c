/-
  Slices of strings and of integers in memory; appending to a slice of the call's own; Same and slices.Equal.
-/
import Derived.Handy
import Derived.WalkMore
import Derived.Lib.Hide
import Derived.WalkLawsBesides
import Derived.WalkSpells
import Derived.Deep.QuietTactic
import Derived.BigQuiet
import Derived.Deep.Draws
import Derived.StillTailTactics
import Derived.Maps.AppendAt
import Derived.Deep.AppendLies
import Derived.RegionTactic
import Derived.OwnWalk
import Derived.Test.YtkjgmnmngbfhhaaDoorProg
import Derived.Test.YtkjgmnmngbfhhaaDoorWc
import Derived.Test.YtkjgmnmngbfhhaaDoorLcs
namespace Go.Proofs.YtkjgmnmngbfhhaaDoor
open Go.RowKit (wrap32 wrap64 intOf Hid Below)
open Lcs
def sv (L : List Str) : List Value := L.map Value.string
def iv (L : List Nat) : List Value := L.map fun (n : Nat) => Value.int .i64 (n : Int)
theorem sv_len (L : List Str) : (sv L).length = L.length := by simp [sv]
theorem str_eq (a b : ByteArray) : (a.toList == b.toList) = decide (a = b) := by
 rw [Bool.eq_iff_iff, beq_iff_eq, decide_eq_true_eq]
 constructor
 · intro h
   rw [ByteArray.toList_eq, ByteArray.toList_eq] at h
   cases a; cases b
   simpa using h
 · rintro rfl; rfl
theorem alloc_below (w : World) (o : Obj) : Below w.heap.size w (w.alloc o) := (Below.refl _ _).alloc (Nat.le_refl _) o
section
variable {P : Program} (w : World)
end
end Go.Proofs.YtkjgmnmngbfhhaaDoor
