/-
  A slice of spans that came in without an address has no capacity.
-/
import Derived.Test.YtplphinaeikpmaaGreatDoorLaid
namespace Go.Proofs.YtplphinaeikpmaaGreatDoor
open Go.ChangeShapes Go.WideShapes Go.ChangeAt Go.RowKit

theorem spans_cap {H : Type} {enc : TypeId × Value → H} {W : World} {a : Option Addr} {n c : Nat} {d : DataW H} {p : List MemPlace}
    (h : ∃ fuel, DataW.trod enc Tryz.prog W 0 (fun _ => true) true fuel 22 (Value.slice a n c).cells.toList = some (d, p)) : a = none → c = 0 := by
  intro e
  subst e
  obtain ⟨fuel, hf⟩ := h
  rcases Deep.open_slice_pairs Tryz.underlying22 Tryz.underlying35 cSpan rfl rfl cInt cInt hf with ⟨hcs, _⟩ | ⟨x, l, k, m, g, V0, V1, D0, D1, P0, P1, hcs, _⟩
  · simp [Value.cells] at hcs
    exact hcs.2
  · simp [Value.cells] at hcs
end Go.Proofs.YtplphinaeikpmaaGreatDoor
