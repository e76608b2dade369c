/-
  The plain mathematics of labels: their text, splitting, order, successors, and what lies between.
-/
import Derived.Lib.ItoaNum
import Derived.Test.YtglkpmhamekpmaaGreatTrim
namespace Go.Proofs.YtglkpmhamekpmaaGreat
namespace Lab
def valA (a : Nat) (l : Bs) : Nat := l.foldl (fun n c => n * 10 + (c.toNat - 48)) a
def val (l : Bs) : Nat := valA 0 l
end Lab
end Go.Proofs.YtglkpmhamekpmaaGreat
