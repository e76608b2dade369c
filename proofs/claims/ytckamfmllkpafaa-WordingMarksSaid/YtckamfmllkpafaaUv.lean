/-
  Trees of units as plain values.
-/
import Derived.Test.YtckamfmllkpafaaVal
import Derived.Test.YtckamfmllkpafaaProg
import Derived.Test.YtckamfmllkpafaaP7
import Derived.IntWalk
namespace Go.Proofs.Ytckamfmllkpafaa
open Lab Lcs
end Go.Proofs.Ytckamfmllkpafaa
namespace Go.Proofs.Ytckamfmllkpafaa.Pu
open Go Go.Pv
open Lab Lcs Go.Proofs.Ytckamfmllkpafaa
def idl (t : Trip) : List IV := [.int .i64 t.x, .int .i64 t.y, .int .i64 t.z]
def idv (t : Trip) : IV := .agg (idl t)
def wdv (a : Wd) : IV := .agg [.str a.text, .int .i64 a.mark.x, .int .i64 a.mark.y, .int .i64 a.mark.z]
end Go.Proofs.Ytckamfmllkpafaa.Pu
