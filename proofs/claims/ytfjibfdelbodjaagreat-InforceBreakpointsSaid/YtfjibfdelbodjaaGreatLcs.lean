/-
  The plain mathematics of longest common subsequences: their length, the pairs that are found from the front, and distances. It imports nothing of the program.
-/
namespace Go.Proofs.YtfjibfdelbodjaaGreat
namespace Lcs
abbrev Str:=ByteArray
def lcs:List Str→List Str→Nat
 |[],_=>0
 |_::_,[]=>0
 |x::xs,y::ys=>if x=y then lcs xs ys+1 else max (lcs xs (y::ys)) (lcs (x::xs) ys)
termination_by a b=>a.length+b.length
theorem Jp (b:List Str):lcs [] b=0:=by rw[lcs]
theorem ED (a:List Str):lcs a []=0:=by
 cases a<;>rw[lcs]
theorem D6 (x:Str) (xs ys:List Str):lcs (x::xs) (x::ys)=lcs xs ys+1:=by rw[lcs,if_pos rfl]
theorem zP {x y:Str} (h:x≠y) (xs ys:List Str):lcs (x::xs) (y::ys)=max (lcs xs (y::ys)) (lcs (x::xs) ys):=by rw[lcs,if_neg h]
theorem rM:∀(n:Nat) (a b:List Str),a.length+b.length≤n→lcs a b=lcs b a
 |_,[],b,_=>by rw[Jp,ED]
 |_,_::_,[],_=>by rw[Jp,ED]
 |0,_::_,_::_,h=>absurd h (by simp)
 |n+1,x::xs,y::ys,h=>by
  simp only[List.length_cons]at h
  by_cases e:x=y
  ·subst e
   rw[D6,D6,rM n xs ys (by omega)]
  ·rw[zP e,zP (Ne.symm e),rM n xs (y::ys) (by simp;omega),rM n (x::xs) ys (by simp;omega),Nat.max_comm]
theorem comm (a b:List Str):lcs a b=lcs b a:=rM _ a b (Nat.le_refl _)
def idx (x:Str):List Str→Option Nat
 |[]=>none
 |y::r=>if y=x then some 0 else (idx x r).map (·+1)
def T (a b:List Str) (i j:Nat):Nat:=lcs (a.drop i) (b.drop j)
def st (L:List Str) (k:Nat):Str:=L.getD k ByteArray.empty
end Lcs
end Go.Proofs.YtfjibfdelbodjaaGreat
