/-
  Words without marks; what a function makes of each kid. The contracts of Strip, the program's and the reference's. The reference: Strip.
-/
import Derived.Test.YtiohjjgncbhimaaDoorRal
import Derived.Deep.RegionHeld3
import Derived.Test.YtiohjjgncbhimaaDoorRig
import Derived.Deep.CutRange
import Derived.Deep.RegionLaw
namespace Go.Proofs.YtiohjjgncbhimaaDoor
open Go.RowKit (wrap32 wrap64 intOf Hid Below)
open Lab Lcs
def Units (base : Nat) (wr : World) (ob : Option Nat) (us : List (Ut × List Value)) : Prop := ∀ p ∈ us, UtQ (fun b => base ≤ b ∧ b < wr.heap.size ∧ some b ≠ ob) wr p.1 p.2 ∧ p.2.length = 8
end Go.Proofs.YtiohjjgncbhimaaDoor
namespace Go.Proofs.YtiohjjgncbhimaaDoor
open Go.RowKit (wrap32 wrap64 intOf Hid Below)
open Lab Lcs
theorem WdsQ.later {Q Q' : Nat → Prop} {w w' : World} {A : Option Addr} {n c : Nat} {L : List Wd} (h : WdsQ Q w A n c L) (h1 : ∀ b, Q b → Q' b ∧ w'.heap[b]? = w.heap[b]?) : WdsQ Q' w' A n c L := h.imp (fun b hb => (h1 b hb).1) (fun b hb => (h1 b hb).2)
end Go.Proofs.YtiohjjgncbhimaaDoor
namespace Go.Proofs.YtiohjjgncbhimaaDoor
open Go.RowKit (wrap32 wrap64 intOf Hid Below)
open Lab Lcs
theorem Units.set {base g : Nat} {w : World} {ob : Option Nat} {us : List (Ut × List Value)} {s : Value} (h : Units base w ob us) (hg : g < base) : Units base (w.setCell ⟨g, 7, none⟩ s) ob us := fun p hp =>
 ⟨UtQ.imp (fun b hb => ⟨hb.1, by rw [World.size_setCell]; exact hb.2.1, hb.2.2⟩) (fun b hb => Below.heap_setCell _ _ _ _ (show b ≠ g by have := hb.1; omega)) _ _ (h p hp).1, (h p hp).2⟩
end Go.Proofs.YtiohjjgncbhimaaDoor
