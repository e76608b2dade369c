/-
  The contracts of the reference's digits, May and Split.
-/
import Derived.Handy
import Derived.WalkMore
import Derived.Lib.Hide
import Derived.WalkLawsBesides
import Derived.WalkSpells
import Derived.Deep.QuietTactic
import Derived.BigQuiet
import Derived.Deep.Draws
import Derived.StillTailTactics
import Derived.Test.YtdkalehijilchaaLab
import Derived.Test.YtdkalehijilchaaShelf
namespace Go.Proofs.Ytdkalehijilchaa
open Go.RowKit (wrap32 wrap64 intOf Hid Below)
open Lab
def mk (l : Bs) : ByteArray := ⟨l.toArray⟩
theorem size_list (a : ByteArray) : a.data.toList.length = a.size := by simp
end Go.Proofs.Ytdkalehijilchaa
