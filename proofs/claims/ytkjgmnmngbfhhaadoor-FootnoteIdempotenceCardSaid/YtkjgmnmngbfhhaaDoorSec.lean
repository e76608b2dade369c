/-
  The chapter's example: section; awake.
-/
import Derived.Test.YtkjgmnmngbfhhaaDoorFew
import Derived.Test.YtkjgmnmngbfhhaaDoorTopo
namespace Go.Proofs.YtkjgmnmngbfhhaaDoor
open Go.RowKit (wrap32 wrap64 intOf Hid Below)
open Lab Lcs
theorem Wds.nil (w : World) : Wds w none 0 0 [] := ⟨rfl, Nat.le_refl _, by omega, fun h => absurd h (by omega)⟩
theorem zero_ok : Trip.zero.ok := ⟨⟨by decide, by decide⟩, ⟨by decide, by decide⟩, ⟨by decide, by decide⟩⟩
end Go.Proofs.YtkjgmnmngbfhhaaDoor
