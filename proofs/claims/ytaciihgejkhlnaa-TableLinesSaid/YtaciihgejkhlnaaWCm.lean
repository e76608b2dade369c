/-
  The law of Format, ColumnWidths and Column.
-/
import Derived.Test.YtaciihgejkhlnaaWCl
import Derived.Test.YtaciihgejkhlnaaWCj
namespace Go.Proofs.Ytaciihgejkhlnaa.Pb
open Go Go.Pv Go.RowKit
set_option linter.unusedSimpArgs false
open Lab Lcs Go.Proofs.Ytaciihgejkhlnaa Go.Proofs.Ytaciihgejkhlnaa.Pu Go.Proofs.Ytaciihgejkhlnaa.Pt
set_option maxRecDepth 10000
set_option maxHeartbeats 16000000
theorem lines_len {t : Ut} (h : Smal t) : (linesV t).length ≤ 100000000 := by
 have := h.kids
 unfold linesV
 split
 · unfold linesS; rw [List.length_map]; omega
 · exact Nat.zero_le _
theorem widesV_len {t : Ut} (h : Smal t) : (widesV t).length ≤ 100000000 := by
 unfold widesV
 split
 · rename_i hv; have := cols_le h hv; rw [wides_len]; omega
 · exact Nat.zero_le _
theorem tformat_pc (t : Ut) (c : Int) : PC Try.prog env0 4 [uv t, .int .i64 c] [.bool true] := by
 have hA := awake_pc
 have hF := big_pc t
 have hte := uv_eq t
 by_cases hb : bigB t = true
 · rw [hb] at hF
   rw [hte] at hF ⊢
   refine PC.of_va (T := tb0) eqs_ok tb_ok rfl mixed Try.func4 rfl rfl (Nat.le_of_ble_eq_true rfl) ?_; intro Γ C WK LP fin h0 hW hC hB hR hLP hfin
   (try (conv => whnf)); (repeat ((first | refine qT ?_ | refine qF ?_ | refine qO ?_ | (with_reducible intro z hz); (first | (replace hz := hz (by omega); subst hz) | subst hz) | (refine CallV.mk _ (hC _ _ _ (PCw.of hA)) (fun js hjs => ?_); subst hjs) | (refine CallV.mk _ (hC _ _ _ (PCw.of hF)) (fun js hjs => ?_); subst hjs)); (try (conv => whnf))))
   exact hfin _ (ILes.refl _)
 rw [Bool.not_eq_true] at hb
 obtain ⟨hS, hct⟩ := big_small hb
 rw [hb] at hF
 have h1 := fmt_pc t hS
 have h2 := rtext_pc t hS
 have h3 := texts_pc (linesV t) (linesV t) (lines_len hS)
 have h4 := wid_pc t hS
 have h5 := rwide_pc t hS
 have h6 := ints_pc (widesV t) (widesV t) (widesV_len hS)
 have h7 := col_pc t hS c
 have h8 := rcol_pc t hS c
 have h9 := texts_pc (colC t c) (colC t c) (Nat.le_trans (colC_len hS c) (by decide))
 rw [decide_eq_true rfl] at h3 h6 h9
 generalize linesV t = l at h1 h2 h3
 generalize widesV t = w at h4 h5 h6
 generalize colC t c = o at h7 h8 h9
 rw [hte] at hF h1 h2 h4 h5 h7 h8 ⊢
 refine PC.of_va (T := tb0) eqs_ok tb_ok rfl mixed Try.func4 rfl rfl (Nat.le_of_ble_eq_true rfl) ?_; intro Γ C WK LP fin h0 hW hC hB hR hLP hfin
 (try (conv => whnf)); (repeat ((first | refine qT ?_ | refine qF ?_ | refine qO ?_ | (with_reducible intro z hz); (first | (replace hz := hz (by omega); subst hz) | subst hz) | (refine CallV.mk _ (hC _ _ _ (PCw.of hA)) (fun js hjs => ?_); subst hjs) | (refine CallV.mk _ (hC _ _ _ (PCw.of hF)) (fun js hjs => ?_); subst hjs) | (refine CallV.mk _ (hC _ _ _ (PCw.of h1)) (fun js hjs => ?_); subst hjs) | (refine CallV.mk _ (hC _ _ _ (PCw.of h2)) (fun js hjs => ?_); subst hjs) | (refine CallV.mk _ (hC _ _ _ (PCw.of h3)) (fun js hjs => ?_); subst hjs) | (refine CallV.mk _ (hC _ _ _ (PCw.of h4)) (fun js hjs => ?_); subst hjs) | (refine CallV.mk _ (hC _ _ _ (PCw.of h5)) (fun js hjs => ?_); subst hjs) | (refine CallV.mk _ (hC _ _ _ (PCw.of h6)) (fun js hjs => ?_); subst hjs) | (refine CallV.mk _ (hC _ _ _ (PCw.of h7)) (fun js hjs => ?_); subst hjs) | (refine CallV.mk _ (hC _ _ _ (PCw.of h8)) (fun js hjs => ?_); subst hjs) | (refine CallV.mk _ (hC _ _ _ (PCw.of h9)) (fun js hjs => ?_); subst hjs)); (try (conv => whnf))))
 exact hfin _ (ILes.refl _)
end Go.Proofs.Ytaciihgejkhlnaa.Pb
