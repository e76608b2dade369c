/-
  Canonical lists of days: Valid; the law of InForce.
-/
import Derived.Test.YtfjibfdelbodjaaGreatNd
import Derived.Test.YtfjibfdelbodjaaGreatWAk
namespace Go.Proofs.YtfjibfdelbodjaaGreat.Pe
open Go Go.Pv Go.RowKit
set_option linter.unusedSimpArgs false
open Spans Rm
set_option maxRecDepth 10000
set_option maxHeartbeats 16000000
theorem Ll (a:St) (e:En) (l:List En):∃P,bC a e l=canon P∧jU P (1+l.length):=by
 unfold bC
 split
 ·exact⟨_,rfl,kW (jL _)⟩
 ·exact⟨pE none,nV.symm,(jL none).1,Nat.le_trans (jL none).2 (by omega)⟩
end Go.Proofs.YtfjibfdelbodjaaGreat.Pe
