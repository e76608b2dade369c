/-
  The chapter's example: section; awake.
-/
import Derived.Test.YtdkalehijilchaaVal2
import Derived.Test.YtdkalehijilchaaTopo
namespace Go.Proofs.Ytdkalehijilchaa
open Go.RowKit (wrap32 wrap64 intOf Hid Below)
open Lab Lcs
theorem Wds.nil (w : World) : Wds w none 0 0 [] := ⟨rfl, Nat.le_refl _, by omega, fun h => absurd h (by omega)⟩
end Go.Proofs.Ytdkalehijilchaa
