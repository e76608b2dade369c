/-
  The example of the chapter, and the law of Valid, Size and Get.
-/
import Derived.Test.YtdkalehijilchaaWCk
import Derived.Test.YtdkalehijilchaaWCi
import Derived.Test.YtdkalehijilchaaWCe
namespace Go.Proofs.Ytdkalehijilchaa.Pb
open Go Go.Pv Go.RowKit
set_option linter.unusedSimpArgs false
open Lab Lcs Go.Proofs.Ytdkalehijilchaa Go.Proofs.Ytdkalehijilchaa.Pu Go.Proofs.Ytdkalehijilchaa.Pt
set_option maxRecDepth 10000
set_option maxHeartbeats 16000000
def sA : Str := ⟨#[97]⟩
def sB : Str := ⟨#[98, 32, 98]⟩
def sC : Str := ⟨#[99]⟩
def sD : Str := ⟨#[100]⟩
def exT : Ut := .mk ⟨0, 0, 0⟩ 4 ⟨#[]⟩ [] [] [rowU [sA, sB], rowU [sC, sD]]
theorem ex_lines : linesS exT = [⟨#[97, 32, 124, 32, 98, 32, 98]⟩, ⟨#[99, 32, 124, 32, 100]⟩] := by decide +kernel
theorem ex_wides : wides exT = [1, 3] := by decide +kernel
theorem ex_valid : validT exT = true := by decide +kernel
theorem ex_small : Smal exT := by
 unfold Smal
 decide +kernel
theorem ex_le : ILe (.agg [.int .i64 0, .int .i64 0, .int .i64 0, .int .i64 4, .str ⟨#[]⟩, .nil, .nil, .sl 8 [uv (rowU [sA, sB]), uv (rowU [sC, sD])]]) (uv exT) := by
 unfold exT
 rw [uv_mk]
 exact ILes.agg (.cons (.refl _) (.cons (.refl _) (.cons (.refl _) (.cons (.refl _) (.cons (.refl _) (.cons (.nil 4) (.cons (.nil 4) (.cons (.refl _) (.refl [])))))))))
theorem awake_pc : PC Try.prog env0 6 [] [.bool true] := by
 have h1 := lrow_pc [sA, sB] (by decide) (by decide)
 have h2 := lrow_pc [sC, sD] (by decide) (by decide)
 have h3 := fmt_pc exT ex_small
 have h4 := wid_pc exT ex_small
 have h5 := texts_pc [⟨#[97, 32, 124, 32, 98, 32, 98]⟩, ⟨#[99, 32, 124, 32, 100]⟩] [⟨#[97, 32, 124, 32, 98, 32, 98]⟩, ⟨#[99, 32, 124, 32, 100]⟩] (by decide)
 have h6 := ints_pc [1, 3] [1, 3] (by decide)
 unfold linesV at h3
 rw [if_pos ex_valid, ex_lines] at h3
 unfold widesV at h4
 rw [if_pos ex_valid, ex_wides] at h4
 rw [decide_eq_true rfl] at h5 h6
 refine PC.of_va (T := (tbf fun r => match r with | 2 => [4] | _ => [])) eqs_ok tb_ok rfl mixed Try.func6 rfl rfl (Nat.le_of_ble_eq_true rfl) ?_; intro Γ C WK LP fin h0 hW hC hB hR hLP hfin
 (try (conv => whnf)); (repeat ((first | refine qT ?_ | refine qF ?_ | refine qO ?_ | (with_reducible intro z hz); (first | (replace hz := hz (by omega); subst hz) | subst hz)); (try (conv => whnf))))
 refine Imms.mk (sv [sA, sB]) rfl ?_
 (try (conv => whnf)); (repeat ((first | refine qT ?_ | refine qF ?_ | refine qO ?_ | (with_reducible intro z hz); (first | (replace hz := hz (by omega); subst hz) | subst hz) | (refine CallV.mk _ (hC _ _ _ (PCw.of h1)) (fun js hjs => ?_); subst hjs)); (try (conv => whnf))))
 refine Imms.mk (sv [sC, sD]) rfl ?_
 (try (conv => whnf)); (repeat ((first | refine qT ?_ | refine qF ?_ | refine qO ?_ | (with_reducible intro z hz); (first | (replace hz := hz (by omega); subst hz) | subst hz) | (refine CallV.mk _ (hC _ _ _ (PCw.of h2)) (fun js hjs => ?_); subst hjs)); (try (conv => whnf))))
 refine Imms.mk [uv (rowU [sA, sB]), uv (rowU [sC, sD])] rfl ?_
 (try (conv => whnf)); (repeat ((first | refine qT ?_ | refine qF ?_ | refine qO ?_ | (with_reducible intro z hz); (first | (replace hz := hz (by omega); subst hz) | subst hz)); (try (conv => whnf))))
 refine CallV.mk _ (hC _ _ _ ⟨_, .cons ex_le (.refl []), h3⟩) (fun js hjs => ?_); subst hjs
 (try (conv => whnf)); (repeat ((first | refine qT ?_ | refine qF ?_ | refine qO ?_ | (with_reducible intro z hz); (first | (replace hz := hz (by omega); subst hz) | subst hz)); (try (conv => whnf))))
 refine Imms.mk (sv [⟨#[97, 32, 124, 32, 98, 32, 98]⟩, ⟨#[99, 32, 124, 32, 100]⟩]) rfl ?_
 (try (conv => whnf)); (repeat ((first | refine qT ?_ | refine qF ?_ | refine qO ?_ | (with_reducible intro z hz); (first | (replace hz := hz (by omega); subst hz) | subst hz) | (refine CallV.mk _ (hC _ _ _ (PCw.of h5)) (fun js hjs => ?_); subst hjs)); (try (conv => whnf))))
 refine CallV.mk _ (hC _ _ _ ⟨_, .cons ex_le (.refl []), h4⟩) (fun js hjs => ?_); subst hjs
 (try (conv => whnf)); (repeat ((first | refine qT ?_ | refine qF ?_ | refine qO ?_ | (with_reducible intro z hz); (first | (replace hz := hz (by omega); subst hz) | subst hz)); (try (conv => whnf))))
 refine Imms.mk (zv [1, 3]) rfl ?_
 (try (conv => whnf)); (repeat ((first | refine qT ?_ | refine qF ?_ | refine qO ?_ | (with_reducible intro z hz); (first | (replace hz := hz (by omega); subst hz) | subst hz) | (refine CallV.mk _ (hC _ _ _ (PCw.of h6)) (fun js hjs => ?_); subst hjs)); (try (conv => whnf))))
 exact hfin _ (ILes.refl _)
end Go.Proofs.Ytdkalehijilchaa.Pb
