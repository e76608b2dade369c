/-
  What the chapter says of trees: nesting, validity, IDs, bareness, equality. Plain mathematics, of no program.
-/
import Derived.Test.YtckamfmllkpafaaTree
namespace Go.Proofs.Ytckamfmllkpafaa
open Lab Lcs
def Trip.zero : Trip := ⟨0, 0, 0⟩
def Ut.id : Ut → Trip
 | .mk id _ _ _ _ _ => id
def Ut.kind : Ut → Int
 | .mk _ kind _ _ _ _ => kind
def Ut.label : Ut → Str
 | .mk _ _ label _ _ _ => label
def Ut.head : Ut → List Wd
 | .mk _ _ _ head _ _ => head
def Ut.words : Ut → List Wd
 | .mk _ _ _ _ words _ => words
def Ut.kids : Ut → List Ut
 | .mk _ _ _ _ _ kids => kids
mutual
def sameB : Ut → Ut → Bool
 | .mk i1 k1 l1 h1 w1 c1, .mk i2 k2 l2 h2 w2 c2 => decide (i1 = i2) && decide (k1 = k2) && decide (l1 = l2) && decide (h1 = h2) && decide (w1 = w2) && sameL c1 c2
def sameL : List Ut → List Ut → Bool
 | [], [] => true
 | a :: r, b :: s => sameB a b && sameL r s
 | [], _ :: _ => false
 | _ :: _, [] => false
end
mutual
theorem same_iff : ∀ a b : Ut, sameB a b = true ↔ a = b
 | .mk i1 k1 l1 h1 w1 c1, .mk i2 k2 l2 h2 w2 c2 => by
   unfold sameB
   simp only [Bool.and_eq_true, decide_eq_true_eq, Ut.mk.injEq, sameL_iff c1 c2, and_assoc]
theorem sameL_iff : ∀ a b : List Ut, sameL a b = true ↔ a = b
 | [], [] => by simp [sameL]
 | a :: r, b :: s => by
   unfold sameL
   simp only [Bool.and_eq_true, same_iff a b, sameL_iff r s, List.cons.injEq]
 | [], _ :: _ => by simp [sameL]
 | _ :: _, [] => by simp [sameL]
end
instance : DecidableEq Ut := fun a b => decidable_of_iff (sameB a b = true) (same_iff a b)
end Go.Proofs.Ytckamfmllkpafaa
