/-
  The contracts of Depth, and of the reference's Count and Depth.
-/
import Derived.Test.YtkjgmnmngbfhhaaDoorBox
namespace Go.Proofs.YtkjgmnmngbfhhaaDoor
open Go.RowKit (wrap32 wrap64 intOf Hid Below)
open Lab Lcs
theorem in_box {w wr : World} {o : Obj} (h : Below (w.heap.size + 1) (w.alloc o) wr) : Below w.heap.size w wr ∧ w.heap.size < wr.heap.size := by
 have h1 := alloc_below w o
 have h2 := h.size
 have h3 := alloc_lt w o
 exact ⟨h1.trans (h.mono (Nat.le_succ _)), by omega⟩
end Go.Proofs.YtkjgmnmngbfhhaaDoor
