/-
  Keys of maps: steps and IDs.
-/
import Derived.DeepKeys4
import Derived.Maps.Own
import Derived.Maps.OwnSet
import Derived.OneCell
import Derived.Test.YtdkalehijilchaaWds
namespace Go.Proofs.Ytdkalehijilchaa
open Go.RowKit (wrap32 wrap64 intOf Hid Below)
open Lab Lcs
open Go.Maps Go.WideMaps
def kid (t : Trip) : Lit := .string (keyBytes [.int .i64 t.x, .int .i64 t.y, .int .i64 t.z])
end Go.Proofs.Ytdkalehijilchaa
