/-
  The reference's sets of days: membership, sorted insertion, points.
-/
import Derived.Test.YtmgjpmjmondplaaWAa
import Derived.Test.YtmgjpmjmondplaaRm
namespace Go.Proofs.Ytmgjpmjmondplaa.Pe
open Go Go.Pv Go.RowKit
set_option linter.unusedSimpArgs false
open Spans Rm
set_option maxRecDepth 10000
set_option maxHeartbeats 16000000
def spv (s : Sp) : IV := .agg [.int .i64 s.1, .int .i64 s.2]
end Go.Proofs.Ytmgjpmjmondplaa.Pe
