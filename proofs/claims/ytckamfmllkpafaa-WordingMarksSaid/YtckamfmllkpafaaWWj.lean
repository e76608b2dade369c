/-
  The example of the chapter; the law of Replace.
-/
import Derived.Test.YtckamfmllkpafaaWWi
namespace Go.Proofs.Ytckamfmllkpafaa.Pw
open Go Go.Pv Go.RowKit Go.Proofs.Ytckamfmllkpafaa.Pu Go.Proofs.Ytckamfmllkpafaa.Pb
set_option linter.unusedSimpArgs false
open Lab Lcs Go.Proofs.Ytckamfmllkpafaa
set_option maxRecDepth 10000
set_option maxHeartbeats 16000000
def sA : Str := ⟨#[97]⟩
def sB : Str := ⟨#[98]⟩
def sX : Str := ⟨#[120]⟩
def sY : Str := ⟨#[121]⟩
def sZ : Str := ⟨#[122]⟩
def wA : Wd := ⟨sA, ⟨0, 0, 0⟩⟩
def wB : Wd := ⟨sB, ⟨0, 0, 0⟩⟩
def exX : List Wd := [wA, ⟨sX, ⟨7, 2, 0⟩⟩, ⟨sY, ⟨7, 2, 1⟩⟩, wA]
def exY : List Wd := [wA, ⟨sZ, ⟨7, 2, 0⟩⟩, wA, ⟨sZ, ⟨7, 2, 1⟩⟩]
theorem ex_rep : repA [wA, wB, wA] [sB] [sX, sY] 1 7 2 = (exX, 0) := by decide +kernel
theorem ex_ins : insW [wA, wA] [sA] [sZ] 0 7 2 = (exY, 0) := by decide +kernel
theorem awake_pc : PC Try.prog env0 5 [] [.bool true] := by
 have h1 := replace_pc [wA, wB, wA] [sB] [sX, sY] 1 7 2 (by decide) (by decide) (by decide)
 have h2 := insert_pc [wA, wA] [sA] [sZ] 0 7 2 (by decide) (by decide) (by decide)
 have h3 := rows_pc exX exX (by decide) (by decide)
 rw [ex_rep] at h1
 rw [ex_ins] at h2
 rw [decide_eq_true rfl] at h3
 refine PC.of_va (T := (tbe (fun r => match r with | 2 => [0] | _ => []) fun _ => false)) eqs_ok tbf_ok rfl mixed Try.func5 rfl rfl (Nat.le_of_ble_eq_true rfl) ?_; intro Γ C WK LP fin h0 hW hC hB hR hLP hfin
 (try (conv => whnf)); (repeat ((first | refine qT ?_ | refine qF ?_ | refine qO ?_ | (with_reducible intro z hz); (first | (replace hz := hz (by omega); subst hz) | subst hz)); (try (conv => whnf))))
 refine Imms.mk [wdv wA, wdv wB, wdv wA] rfl ?_
 (try (conv => whnf)); (repeat ((first | refine qT ?_ | refine qF ?_ | refine qO ?_ | (with_reducible intro z hz); (first | (replace hz := hz (by omega); subst hz) | subst hz)); (try (conv => whnf))))
 refine Imms.mk [.str sB] rfl ?_
 (try (conv => whnf)); (repeat ((first | refine qT ?_ | refine qF ?_ | refine qO ?_ | (with_reducible intro z hz); (first | (replace hz := hz (by omega); subst hz) | subst hz)); (try (conv => whnf))))
 refine Imms.mk [.str sX, .str sY] rfl ?_
 (try (conv => whnf)); (repeat ((first | refine qT ?_ | refine qF ?_ | refine qO ?_ | (with_reducible intro z hz); (first | (replace hz := hz (by omega); subst hz) | subst hz) | (refine CallV.mk _ (hC _ _ _ (PCw.of h1)) (fun js hjs => ?_); subst hjs)); (try (conv => whnf))))
 refine Idx.mk 0 (wdv wA) _ rfl rfl rfl ?_
 (try (conv => whnf)); (repeat ((first | refine qT ?_ | refine qF ?_ | refine qO ?_ | (with_reducible intro z hz); (first | (replace hz := hz (by omega); subst hz) | subst hz)); (try (conv => whnf))))
 refine Idx.mk 2 (wdv wA) _ rfl rfl rfl ?_
 (try (conv => whnf)); (repeat ((first | refine qT ?_ | refine qF ?_ | refine qO ?_ | (with_reducible intro z hz); (first | (replace hz := hz (by omega); subst hz) | subst hz)); (try (conv => whnf))))
 refine Imms.mk [wdv wA, wdv wA] rfl ?_
 (try (conv => whnf)); (repeat ((first | refine qT ?_ | refine qF ?_ | refine qO ?_ | (with_reducible intro z hz); (first | (replace hz := hz (by omega); subst hz) | subst hz)); (try (conv => whnf))))
 refine Imms.mk [.str sA] rfl ?_
 (try (conv => whnf)); (repeat ((first | refine qT ?_ | refine qF ?_ | refine qO ?_ | (with_reducible intro z hz); (first | (replace hz := hz (by omega); subst hz) | subst hz)); (try (conv => whnf))))
 refine Imms.mk [.str sZ] rfl ?_
 (try (conv => whnf)); (repeat ((first | refine qT ?_ | refine qF ?_ | refine qO ?_ | (with_reducible intro z hz); (first | (replace hz := hz (by omega); subst hz) | subst hz) | (refine CallV.mk _ (hC _ _ _ (PCw.of h2)) (fun js hjs => ?_); subst hjs)); (try (conv => whnf))))
 refine Idx.mk 0 (wdv wA) _ rfl rfl rfl ?_
 (try (conv => whnf)); (repeat ((first | refine qT ?_ | refine qF ?_ | refine qO ?_ | (with_reducible intro z hz); (first | (replace hz := hz (by omega); subst hz) | subst hz)); (try (conv => whnf))))
 refine Idx.mk 2 (wdv wA) _ rfl rfl rfl ?_
 (try (conv => whnf)); (repeat ((first | refine qT ?_ | refine qF ?_ | refine qO ?_ | (with_reducible intro z hz); (first | (replace hz := hz (by omega); subst hz) | subst hz)); (try (conv => whnf))))
 refine Imms.mk (exX.map wdv) rfl ?_
 (try (conv => whnf)); (repeat ((first | refine qT ?_ | refine qF ?_ | refine qO ?_ | (with_reducible intro z hz); (first | (replace hz := hz (by omega); subst hz) | subst hz) | (refine CallV.mk _ (hC _ _ _ (PCw.of h3)) (fun js hjs => ?_); subst hjs)); (try (conv => whnf))))
 refine Idx.mk 3 (wdv ⟨sZ, ⟨7, 2, 1⟩⟩) _ rfl rfl rfl ?_
 (try (conv => whnf)); (repeat ((first | refine qT ?_ | refine qF ?_ | refine qO ?_ | (with_reducible intro z hz); (first | (replace hz := hz (by omega); subst hz) | subst hz)); (try (conv => whnf))))
 exact hfin _ (ILes.refl _)
end Go.Proofs.Ytckamfmllkpafaa.Pw
