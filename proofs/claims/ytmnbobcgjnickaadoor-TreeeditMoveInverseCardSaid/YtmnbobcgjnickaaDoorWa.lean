/-
  The contracts of the reference's digits, May and Split.
-/
import Derived.Handy
import Derived.WalkMore
import Derived.Lib.Hide
import Derived.WalkLawsBesides
import Derived.WalkSpells
import Derived.Deep.QuietTactic
import Derived.BigQuiet
import Derived.Deep.Draws
import Derived.StillTailTactics
import Derived.Test.YtmnbobcgjnickaaDoorLab
import Derived.Test.YtmnbobcgjnickaaDoorShelf
namespace Go.Proofs.YtmnbobcgjnickaaDoor
open Go.RowKit (wrap32 wrap64 intOf Hid Below)
open Lab
theorem ret_bool {a b : Bool} (h : a = b) : Ending.returned (.bool a) = .returned (.bool b) := by rw [h]
def mk (l : Bs) : ByteArray := ⟨l.toArray⟩
theorem eq_mk {a : ByteArray} {l : Bs} (h : a.data.toList = l) : a = mk l := by
 subst h
 cases a
 rfl
theorem size_list (a : ByteArray) : a.data.toList.length = a.size := by simp
theorem below_drawn {B : Nat} {a w : World} (h : Below B a w) (n : Nat) : Below B a (w.drewN n) := ⟨h.os, h.tape, h.output, h.size, h.block⟩
theorem take_snoc (s : ByteArray) (k : Nat) (h : k < s.size) : s.data.toList.take (k + 1) = s.data.toList.take k ++ [s[k]] := by
 rw [List.take_succ_eq_append_getElem (by simpa using h)]; rfl
theorem getD_at (s : ByteArray) (k : Nat) (h : k < s.size) : s.data.toList.getD k 0 = s[k] := by
 rw [List.getD, List.getElem?_eq_getElem (by simpa using h)]; rfl
theorem head_at (s : ByteArray) (h : 0 < s.size) : s.data.toList.head? = some s[0] := by
 have h1 : 0 < s.data.toList.length := by rw [size_list]; exact h
 rw [List.head?_eq_getElem?, List.getElem?_eq_getElem h1]
 rfl
end Go.Proofs.YtmnbobcgjnickaaDoor
