/-
  Slices of strings and of integers in memory; appending to a slice of the call's own; Same and slices.Equal.
-/
import Derived.Handy
import Derived.WalkMore
import Derived.Lib.Hide
import Derived.WalkLawsBesides
import Derived.WalkSpells
import Derived.Deep.QuietTactic
import Derived.BigQuiet
import Derived.Deep.Draws
import Derived.StillTailTactics
import Derived.Maps.AppendAt
import Derived.Deep.AppendLies
import Derived.RegionTactic
import Derived.OwnWalk
import Derived.Test.YtdkalehijilchaaProg
import Derived.Lib.LaidTab
import Derived.Lib.SmallJoins
import Derived.Test.YtdkalehijilchaaWa
import Derived.Test.YtdkalehijilchaaLcs
namespace Go.Proofs.Ytdkalehijilchaa
open Go.RowKit (wrap32 wrap64 intOf Hid Below)
open Lcs
def sv (L : List Str) : List Value := L.map Value.string
theorem sv_len (L : List Str) : (sv L).length = L.length := by simp [sv]
section
variable {P : Program} (w : World)
end
end Go.Proofs.Ytdkalehijilchaa
