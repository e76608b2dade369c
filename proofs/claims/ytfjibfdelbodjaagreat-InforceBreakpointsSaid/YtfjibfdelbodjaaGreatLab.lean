/-
  The plain mathematics of labels: their text, splitting, order, successors, and what lies between.
-/
import Derived.Lib.ItoaNum
import Derived.Test.YtfjibfdelbodjaaGreatTrim
namespace Go.Proofs.YtfjibfdelbodjaaGreat
namespace Lab
def OG (a:Nat) (l:Bs):Nat:=l.foldl (fun n c=>n*10+(c.toNat - 48)) a
def val (l:Bs):Nat:=OG 0 l
end Lab
end Go.Proofs.YtfjibfdelbodjaaGreat
