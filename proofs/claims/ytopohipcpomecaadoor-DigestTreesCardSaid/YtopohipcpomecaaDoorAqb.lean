/-
  Steps with the reasons that they mostly have (shorter texts).
-/
import Derived.Test.YtopohipcpomecaaDoorUv
import Derived.Test.YtopohipcpomecaaDoorEqs
import Derived.Test.YtopohipcpomecaaDoorP7
namespace Go.Proofs.YtopohipcpomecaaDoor.Pb
open Go Go.Pv Go.Proofs.YtopohipcpomecaaDoor.Pu
theorem qT {c A B : Prop} (k : A) (h : ¬ c → False := by intro hc; first | omega | (simp [eqC, cellsI, idv, idl] at hc; first | done | omega) | contradiction) : Fork c (fun _ => A) (fun _ => B) := .mk (fun _ => k) (fun hc => (h hc).elim)
theorem qF {c A B : Prop} (k : B) (h : c → False := by intro hc; first | omega | (simp [eqC, cellsI, idv, idl] at hc; first | done | omega) | contradiction) : Fork c (fun _ => A) (fun _ => B) := .mk (fun hc => (h hc).elim) (fun _ => k)
theorem qO {P X : Prop} (k : X) (h : P := by first | omega | (unfold most; omega) | decide +kernel | exact Nat.le_of_ble_eq_true rfl | assumption | (simp [most]; omega)) : Owe P X := .mk h k
theorem qSL {Γ : Ctx} {n : Nat} {A A' : List (Nat × PV)} {B B' : List Blk} (m : Nat) (hB : B.take m = B') (hm : B'.length = m)
   (hn0 : Γ.n0 ≤ m := by first | omega | (rw [h0]; exact Nat.le_of_ble_eq_true rfl))
   (hbl : B'.all (blkBelow m) = true := by first | (simp only [List.all_cons, List.all_nil, blkBelow, belowL_imm, belowL, belowB, Bool.and_true, Bool.true_and]; first | done | decide) | rfl | simp [blkBelow, belowB, belowL, belowL_imm])
   (hE : wkV m A A' := by (repeat ((conv => whnf); first | exact trivial | refine And.intro (by first | exact WkOne.any | exact WkOne.eq (by with_reducible rfl) rfl | exact WkOne.int (by first | omega | (simp; first | done | omega)) | exact WkOne.eq rfl rfl | exact WkOne.le rfl (ILe.nil _)) ?_))) : WeakA Γ n ⟨A, B⟩ ⟨A', B'⟩ := WeakA.slots m hn0 hB hm hbl hE
end Go.Proofs.YtopohipcpomecaaDoor.Pb
