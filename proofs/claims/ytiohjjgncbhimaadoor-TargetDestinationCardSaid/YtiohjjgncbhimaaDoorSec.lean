/-
  The chapter's example: section; awake.
-/
import Derived.Test.YtiohjjgncbhimaaDoorFew
import Derived.Test.YtiohjjgncbhimaaDoorTopo
namespace Go.Proofs.YtiohjjgncbhimaaDoor
open Go.RowKit (wrap32 wrap64 intOf Hid Below)
open Lab Lcs
theorem Wds.nil (w : World) : Wds w none 0 0 [] := ⟨rfl, Nat.le_refl _, by omega, fun h => absurd h (by omega)⟩
end Go.Proofs.YtiohjjgncbhimaaDoor
