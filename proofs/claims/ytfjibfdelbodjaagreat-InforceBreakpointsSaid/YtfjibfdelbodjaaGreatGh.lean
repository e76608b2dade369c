/-
  Corpus: the law of what is known since when. Corpus: what one gazette more changes (of no program but for the names). Corpus: the numbers of acts that occur more than once, by the reference. Corpus: the law of the gazettes' order.
-/
import Derived.Test.YtfjibfdelbodjaaGreatWDk
namespace Go.Proofs.YtfjibfdelbodjaaGreat.Po
open Go Go.Pv Go.RowKit
set_option linter.unusedSimpArgs false
open Lab Lcs Go.Proofs.YtfjibfdelbodjaaGreat Go.Proofs.YtfjibfdelbodjaaGreat.Pu
set_option maxRecDepth 10000
set_option maxHeartbeats 32000000
end Go.Proofs.YtfjibfdelbodjaaGreat.Po
namespace Go.Proofs.YtfjibfdelbodjaaGreat.Po
open Go Go.Pv Go.RowKit
set_option linter.unusedSimpArgs false
open Lab Lcs Go.Proofs.YtfjibfdelbodjaaGreat Go.Proofs.YtfjibfdelbodjaaGreat.Pu
set_option maxRecDepth 10000
end Go.Proofs.YtfjibfdelbodjaaGreat.Po
namespace Go.Proofs.YtfjibfdelbodjaaGreat.Po
open Go Go.Pv Go.RowKit
set_option linter.unusedSimpArgs false
open Lab Lcs Go.Proofs.YtfjibfdelbodjaaGreat Go.Proofs.YtfjibfdelbodjaaGreat.Pu
set_option maxRecDepth 10000
set_option maxHeartbeats 32000000
def pI (x y:Int):Bool:=decide (y < x)
def iJ (x:Int) (out:List Int):List Int:=if (out.dropWhile (pI x)).head?=some x then out else out.takeWhile (pI x)++x::out.dropWhile (pI x)
theorem EK (x:Int) (out:List Int):(iJ x out).length≤out.length+1:=by
 unfold iJ
 split
 ·omega
 ·have:=congrArg List.length (List.takeWhile_append_dropWhile (p:=pI x) (l:=out))
  rw[List.length_append]at this
  rw[List.length_append,List.length_cons];omega
end Go.Proofs.YtfjibfdelbodjaaGreat.Po
namespace Go.Proofs.YtfjibfdelbodjaaGreat.Po
open Go Go.Pv Go.RowKit
set_option linter.unusedSimpArgs false
open Lab Lcs Go.Proofs.YtfjibfdelbodjaaGreat Go.Proofs.YtfjibfdelbodjaaGreat.Pu
set_option maxRecDepth 10000
set_option maxHeartbeats 32000000
open Go.Proofs (ltOf)
end Go.Proofs.YtfjibfdelbodjaaGreat.Po
