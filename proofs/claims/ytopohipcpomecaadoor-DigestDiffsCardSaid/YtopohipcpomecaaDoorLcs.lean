/-
  The plain mathematics of longest common subsequences: their length, the pairs that are found from the front, and distances. It imports nothing of the program.
-/
namespace Go.Proofs.YtopohipcpomecaaDoor
namespace Lcs
abbrev Str := ByteArray
def lcs : List Str → List Str → Nat
 | [], _ => 0
 | _ :: _, [] => 0
 | x :: xs, y :: ys => if x = y then lcs xs ys + 1 else max (lcs xs (y :: ys)) (lcs (x :: xs) ys)
termination_by a b => a.length + b.length
def T (a b : List Str) (i j : Nat) : Nat := lcs (a.drop i) (b.drop j)
def st (L : List Str) (k : Nat) : Str := L.getD k ByteArray.empty
end Lcs
end Go.Proofs.YtopohipcpomecaaDoor
