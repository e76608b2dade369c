/-
  Size, Get.
-/
import Derived.Test.YtdkalehijilchaaWCb
import Derived.Test.YtdkalehijilchaaClo
namespace Go.Proofs.Ytdkalehijilchaa.Pb
open Go Go.Pv Go.RowKit
set_option linter.unusedSimpArgs false
open Lab Lcs Go.Proofs.Ytdkalehijilchaa Go.Proofs.Ytdkalehijilchaa.Pu Go.Proofs.Ytdkalehijilchaa.Pt
set_option maxRecDepth 10000
set_option maxHeartbeats 8000000
theorem valid_some {t : Ut} (hv : validT t = true) : ∃ r, t.kids[0]? = some r ∧ colsN t = r.kids.length ∧ 0 < t.kids.length := by
 unfold validT numB at hv
 simp only [Bool.and_eq_true, decide_eq_true_eq] at hv
 have h0 := hv.2.1.1
 refine ⟨t.kids[0], List.getElem?_eq_getElem h0, ?_, h0⟩
 unfold colsN
 rw [List.getElem?_eq_getElem h0]
 rfl
theorem valid_row {t r : Ut} (hv : validT t = true) (hr : r ∈ t.kids) : r.kids.length = colsN t := by
 unfold validT at hv
 simp only [Bool.and_eq_true, Bool.not_eq_true', List.any_eq_false] at hv
 have := hv.2.2 r hr
 unfold badR at this
 simp only [Bool.or_eq_true, decide_eq_true_eq, not_or, Bool.not_eq_true] at this
 exact Classical.not_not.1 this.1
theorem size_pk (t : Ut) (h : Smk t) : PC Try.prog env0 37 [uv t] [.int .i64 (rowsV t : Nat), .int .i64 (colsV t : Nat)] := by
 have hV := valid_pk t h
 have hl := h.kids
 have hte := uv_eq t
 have hml : (t.kids.map uv).length = t.kids.length := List.length_map _
 unfold rowsV colsV
 by_cases hv : validT t = true
 · rw [if_pos hv, if_pos hv]
   obtain ⟨r, hr, hcn, h0⟩ := valid_some hv
   have hre := uv_eq r
   have hmr : (r.kids.map uv).length = r.kids.length := List.length_map _
   rw [hv] at hV
   rw [hcn]
   rw [hte] at hV ⊢
   refine PC.of_va (T := tb0) eqs_ok tb_ok rfl mixed Try.func37 rfl rfl (Nat.le_of_ble_eq_true rfl) ?_; intro Γ C WK LP fin h0 hW hC hB hR hLP hfin
   (try (conv => whnf)); (repeat ((first | refine qT ?_ | refine qF ?_ | refine qO ?_ | (with_reducible intro z hz); (first | (replace hz := hz (by omega); subst hz) | subst hz) | (refine CallV.mk _ (hC _ _ _ (PCw.of hV)) (fun js hjs => ?_); subst hjs)); (try (conv => whnf))))
   refine Idx.mk 0 (uv r) _ rfl (by simp [hr]) (by rw [hre]; try rfl) ?_
   (try (conv => whnf)); (repeat ((first | refine qT ?_ | refine qF ?_ | refine qO ?_ | (with_reducible intro z hz); (first | (replace hz := hz (by omega); subst hz) | subst hz)); (try (conv => whnf))))
   rw [hml, hmr]
   exact hfin _ (ILes.refl _)
 · rw [if_neg hv, if_neg hv]
   rw [Bool.not_eq_true] at hv
   rw [hv] at hV
   rw [hte] at hV ⊢
   refine PC.of_va (T := tb0) eqs_ok tb_ok rfl mixed Try.func37 rfl rfl (Nat.le_of_ble_eq_true rfl) ?_; intro Γ C WK LP fin h0 hW hC hB hR hLP hfin
   (try (conv => whnf)); (repeat ((first | refine qT ?_ | refine qF ?_ | refine qO ?_ | (with_reducible intro z hz); (first | (replace hz := hz (by omega); subst hz) | subst hz) | (refine CallV.mk _ (hC _ _ _ (PCw.of hV)) (fun js hjs => ?_); subst hjs)); (try (conv => whnf))))
   exact hfin _ (ILes.refl _)
theorem has_pk (t : Ut) (h : Smk t) (r c : Int) : PC Try.prog env0 24 [uv t, .int .i64 r, .int .i64 c] [.bool (hasB t r c)] := by
 have hZ := size_pk t h
 have hte := uv_eq t
 unfold hasB
 generalize rowsV t = n at hZ ⊢
 generalize colsV t = m at hZ ⊢
 rw [hte] at hZ ⊢
 by_cases h1 : 0 ≤ r
 rotate_left
 · rw [decide_eq_false h1, Bool.false_and]
   refine PC.of_va (T := tb0) eqs_ok tb_ok rfl mixed Try.func24 rfl rfl (Nat.le_of_ble_eq_true rfl) ?_; intro Γ C WK LP fin h0 hW hC hB hR hLP hfin
   (try (conv => whnf)); (repeat ((first | refine qT ?_ | refine qF ?_ | refine qO ?_ | (with_reducible intro z hz); (first | (replace hz := hz (by omega); subst hz) | subst hz) | (refine CallV.mk _ (hC _ _ _ (PCw.of hZ)) (fun js hjs => ?_); subst hjs)); (try (conv => whnf))))
   exact hfin _ (ILes.refl _)
 rw [decide_eq_true h1, Bool.true_and]
 by_cases h2 : r < (n : Int)
 rotate_left
 · rw [decide_eq_false h2, Bool.false_and]
   refine PC.of_va (T := tb0) eqs_ok tb_ok rfl mixed Try.func24 rfl rfl (Nat.le_of_ble_eq_true rfl) ?_; intro Γ C WK LP fin h0 hW hC hB hR hLP hfin
   (try (conv => whnf)); (repeat ((first | refine qT ?_ | refine qF ?_ | refine qO ?_ | (with_reducible intro z hz); (first | (replace hz := hz (by omega); subst hz) | subst hz) | (refine CallV.mk _ (hC _ _ _ (PCw.of hZ)) (fun js hjs => ?_); subst hjs)); (try (conv => whnf))))
   exact hfin _ (ILes.refl _)
 rw [decide_eq_true h2, Bool.true_and]
 by_cases h3 : 0 ≤ c
 rotate_left
 · rw [decide_eq_false h3, Bool.false_and]
   refine PC.of_va (T := tb0) eqs_ok tb_ok rfl mixed Try.func24 rfl rfl (Nat.le_of_ble_eq_true rfl) ?_; intro Γ C WK LP fin h0 hW hC hB hR hLP hfin
   (try (conv => whnf)); (repeat ((first | refine qT ?_ | refine qF ?_ | refine qO ?_ | (with_reducible intro z hz); (first | (replace hz := hz (by omega); subst hz) | subst hz) | (refine CallV.mk _ (hC _ _ _ (PCw.of hZ)) (fun js hjs => ?_); subst hjs)); (try (conv => whnf))))
   exact hfin _ (ILes.refl _)
 rw [decide_eq_true h3, Bool.true_and]
 by_cases h4 : c < (m : Int)
 · rw [decide_eq_true h4]
   refine PC.of_va (T := tb0) eqs_ok tb_ok rfl mixed Try.func24 rfl rfl (Nat.le_of_ble_eq_true rfl) ?_; intro Γ C WK LP fin h0 hW hC hB hR hLP hfin
   (try (conv => whnf)); (repeat ((first | refine qT ?_ | refine qF ?_ | refine qO ?_ | (with_reducible intro z hz); (first | (replace hz := hz (by omega); subst hz) | subst hz) | (refine CallV.mk _ (hC _ _ _ (PCw.of hZ)) (fun js hjs => ?_); subst hjs)); (try (conv => whnf))))
   exact hfin _ (ILes.refl _)
 · rw [decide_eq_false h4]
   refine PC.of_va (T := tb0) eqs_ok tb_ok rfl mixed Try.func24 rfl rfl (Nat.le_of_ble_eq_true rfl) ?_; intro Γ C WK LP fin h0 hW hC hB hR hLP hfin
   (try (conv => whnf)); (repeat ((first | refine qT ?_ | refine qF ?_ | refine qO ?_ | (with_reducible intro z hz); (first | (replace hz := hz (by omega); subst hz) | subst hz) | (refine CallV.mk _ (hC _ _ _ (PCw.of hZ)) (fun js hjs => ?_); subst hjs)); (try (conv => whnf))))
   exact hfin _ (ILes.refl _)
theorem hasC_pk (t : Ut) (h : Smk t) (c : Int) : PC Try.prog env0 28 [uv t, .int .i64 c] [.bool (hasB t 0 c)] := by
 have hH := has_pk t h 0 c
 have hte := uv_eq t
 generalize hasB t 0 c = b at hH ⊢
 rw [hte] at hH ⊢
 refine PC.of_va (T := tb0) eqs_ok tb_ok rfl mixed Try.func28 rfl rfl (Nat.le_of_ble_eq_true rfl) ?_; intro Γ C WK LP fin h0 hW hC hB hR hLP hfin
 (try (conv => whnf)); (repeat ((first | refine qT ?_ | refine qF ?_ | refine qO ?_ | (with_reducible intro z hz); (first | (replace hz := hz (by omega); subst hz) | subst hz) | (refine CallV.mk _ (hC _ _ _ (PCw.of hH)) (fun js hjs => ?_); subst hjs)); (try (conv => whnf))))
 exact hfin _ (ILes.refl _)
theorem has_at {t : Ut} {r c : Int} (hb : hasB t r c = true) : ∃ (i j : Nat) (x y : Ut), r = (i : Int) ∧ c = (j : Int) ∧ validT t = true ∧ t.kids[i]? = some x ∧ x.kids[j]? = some y := by
 unfold hasB at hb
 simp only [Bool.and_eq_true, decide_eq_true_eq] at hb
 obtain ⟨h1, h2, h3, h4⟩ := hb
 unfold rowsV at h2
 unfold colsV at h4
 by_cases hv : validT t = true
 · rw [if_pos hv] at h2 h4
   have hi : r.toNat < t.kids.length := by omega
   have hx : t.kids[r.toNat]? = some t.kids[r.toNat] := List.getElem?_eq_getElem hi
   have hc := valid_row hv (List.mem_of_getElem? hx)
   have hj : c.toNat < (t.kids[r.toNat]).kids.length := by omega
   exact ⟨r.toNat, c.toNat, t.kids[r.toNat], _, by omega, by omega, hv, hx, List.getElem?_eq_getElem hj⟩
 · rw [if_neg hv] at h2
   omega
def getW (t : Ut) (r c : Int) : List Wd := if hasB t r c = true then cellW ((t.kids[r.toNat]?).getD t) c.toNat else []
theorem get_pk (t : Ut) (h : Smk t) (r c : Int) : PC Try.prog env0 8 [uv t, .int .i64 r, .int .i64 c] [.sl 4 ((getW t r c).map wdv), .bool (hasB t r c)] := by
 have hH := has_pk t h r c
 have hte := uv_eq t
 unfold getW
 by_cases hb : hasB t r c = true
 · obtain ⟨i, j, x, y, rfl, rfl, hv, hx, hy⟩ := has_at hb
   have hl := h.kids
   have hw : cellW ((t.kids[((i : Int)).toNat]?).getD t) ((j : Int)).toNat = y.words := by
     unfold cellW
     rw [Int.toNat_natCast, Int.toNat_natCast, hx]
     show ((x.kids[j]?).map Ut.words).getD [] = _
     rw [hy]
     rfl
   have hyl : y.words.length ≤ 300 := ((h.kid (List.mem_of_getElem? hx)).kid (List.mem_of_getElem? hy) y (all_self y)).2
   have hCl := cloneW_pcr (X := env0) (y.words.map wdv) (by rw [List.length_map]; omega)
   have hxe := uv_eq x
   have hye := uv_eq y
   have hmt : (t.kids.map uv).length = t.kids.length := List.length_map _
   have hmx : (x.kids.map uv).length = x.kids.length := List.length_map _
   have hmy : (y.words.map wdv).length = y.words.length := List.length_map _
   have hit : i < t.kids.length := (List.getElem?_eq_some_iff.1 hx).1
   have hjx : j < x.kids.length := (List.getElem?_eq_some_iff.1 hy).1
   rw [if_pos hb, hw, hb]
   rw [hb] at hH
   rw [hte] at hH ⊢
   refine PC.of_va (T := tb0) eqs_ok tb_ok rfl mixed Try.func8 rfl rfl (Nat.le_of_ble_eq_true rfl) ?_; intro Γ C WK LP fin h0 hW hC hB hR hLP hfin
   (try (conv => whnf)); (repeat ((first | refine qT ?_ | refine qF ?_ | refine qO ?_ | (with_reducible intro z hz); (first | (replace hz := hz (by omega); subst hz) | subst hz) | (refine CallV.mk _ (hC _ _ _ (PCw.of hH)) (fun js hjs => ?_); subst hjs)); (try (conv => whnf))))
   refine Idx.mk i (uv x) _ rfl (by simp [hx]) (by rw [hxe]; try rfl) ?_
   (try (conv => whnf)); (repeat ((first | refine qT ?_ | refine qF ?_ | refine qO ?_ | (with_reducible intro z hz); (first | (replace hz := hz (by omega); subst hz) | subst hz)); (try (conv => whnf))))
   refine Idx.mk j (uv y) _ rfl (by simp [hy]) (by rw [hye]; try rfl) ?_
   (try (conv => whnf)); (repeat ((first | refine qT ?_ | refine qF ?_ | refine qO ?_ | (with_reducible intro z hz); (first | (replace hz := hz (by omega); subst hz) | subst hz)); (try (conv => whnf))))
   refine CallV.row _ _ _ (hR _ _ _ _ _ (PCRw.of (hCl))) (fun js hjs => ?_); subst hjs
   (try (conv => whnf)); (repeat ((first | refine qT ?_ | refine qF ?_ | refine qO ?_ | (with_reducible intro z hz); (first | (replace hz := hz (by omega); subst hz) | subst hz)); (try (conv => whnf))))
   refine Imms.mk (y.words.map wdv) rfl ?_
   exact hfin _ (ILes.refl _)
 · rw [if_neg hb]
   rw [Bool.not_eq_true] at hb
   rw [hb] at hH ⊢
   rw [hte] at hH ⊢
   refine PC.of_va (T := tb0) eqs_ok tb_ok rfl mixed Try.func8 rfl rfl (Nat.le_of_ble_eq_true rfl) ?_; intro Γ C WK LP fin h0 hW hC hB hR hLP hfin
   (try (conv => whnf)); (repeat ((first | refine qT ?_ | refine qF ?_ | refine qO ?_ | (with_reducible intro z hz); (first | (replace hz := hz (by omega); subst hz) | subst hz) | (refine CallV.mk _ (hC _ _ _ (PCw.of hH)) (fun js hjs => ?_); subst hjs)); (try (conv => whnf))))
   refine hfin _ ?_
   exact .cons (.nil 4) (.refl _)
theorem size_pc (t : Ut) (h : Smal t) : PC Try.prog env0 37 [uv t] [.int .i64 (rowsV t : Nat), .int .i64 (colsV t : Nat)] := size_pk t h.k
theorem hasC_pc (t : Ut) (h : Smal t) (c : Int) : PC Try.prog env0 28 [uv t, .int .i64 c] [.bool (hasB t 0 c)] := hasC_pk t h.k c
end Go.Proofs.Ytdkalehijilchaa.Pb
