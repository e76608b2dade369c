/-
  The reference's put, held, Replace; words compared.
-/
import Derived.Test.YtckamfmllkpafaaWWe
namespace Go.Proofs.Ytckamfmllkpafaa.Pw
open Go Go.Pv Go.RowKit Go.Proofs.Ytckamfmllkpafaa.Pu Go.Proofs.Ytckamfmllkpafaa.Pb
set_option linter.unusedSimpArgs false
open Lab Lcs Go.Proofs.Ytckamfmllkpafaa
set_option maxRecDepth 10000
set_option maxHeartbeats 16000000
theorem wd_eq {a b : Wd} (h : a = b) : eqC [.str a.text, .int .i64 a.mark.x, .int .i64 a.mark.y, .int .i64 a.mark.z] [.str b.text, .int .i64 b.mark.x, .int .i64 b.mark.y, .int .i64 b.mark.z] = true := by subst h; simp [eqC]
theorem wd_ne {a b : Wd} (h : a ≠ b) : ¬ eqC [.str a.text, .int .i64 a.mark.x, .int .i64 a.mark.y, .int .i64 a.mark.z] [.str b.text, .int .i64 b.mark.x, .int .i64 b.mark.y, .int .i64 b.mark.z] = true := fun e => h (by
 obtain ⟨s, ⟨x, y, z⟩⟩ := a
 obtain ⟨s2, ⟨x2, y2, z2⟩⟩ := b
 simpa [eqC, and_assoc] using e)
theorem rows_pc (a b : List Wd) (_ha : a.length ≤ 1000000000) (_hb : b.length ≤ 1000000000) : PC Try.prog env0 13 [.sl 4 (a.map wdv), .sl 4 (b.map wdv)] [.bool (decide (a = b))] := by
 have h1 : (a.map wdv).length = a.length := List.length_map _
 have h2 : (b.map wdv).length = b.length := List.length_map _
 by_cases hl : a.length = b.length
 · refine PC.of_va (T := tb0) eqs_ok tb_ok rfl mixed Try.func13 rfl rfl (Nat.le_of_ble_eq_true rfl) ?_; intro Γ C WK LP fin h0 hW hC hB hR hLP hfin
   (try (conv => whnf)); (repeat ((first | refine qT ?_ | refine qF ?_ | refine qO ?_ | (with_reducible intro z hz); (first | (replace hz := hz (by omega); subst hz) | subst hz)); (try (conv => whnf))))
   refine hLP _ _ _ Nat (fun k => ⟨[(0, .imm (.sl 4 (a.map wdv))), (1, .imm (.sl 4 (b.map wdv))), (5, .imm (.int .i64 (k : Nat)))], []⟩) (fun k => k ≤ a.length ∧ a.take k = b.take k) (fun k => a.length - k) 0 ⟨Nat.zero_le _, rfl⟩ (qSL 0 rfl rfl) ?_
   rintro k ⟨hk, hab⟩
   have hho := Nat.lt_or_ge k a.length
   cases hho with
   | inl hlt =>
     obtain ⟨x, hx⟩ : ∃ x, a[k]? = some x := ⟨a[k], List.getElem?_eq_getElem hlt⟩
     obtain ⟨y, hy⟩ : ∃ y, b[k]? = some y := ⟨b[k]'(by omega), List.getElem?_eq_getElem (by omega)⟩
     by_cases hxy : x = y
     · have hi := wd_eq hxy
       (try (conv => whnf)); (repeat ((first | refine qT ?_ | refine qF ?_ | refine qO ?_ | (with_reducible intro z hz); (first | (replace hz := hz (by omega); subst hz) | subst hz)); (try (conv => whnf))))
       refine Idx.mk k (wdv x) _ rfl (by simp [hx]) rfl ?_
       (try (conv => whnf)); (repeat ((first | refine qT ?_ | refine qF ?_ | refine qO ?_ | (with_reducible intro z hz); (first | (replace hz := hz (by omega); subst hz) | subst hz)); (try (conv => whnf))))
       refine Idx.mk k (wdv y) _ rfl (by simp [hy]) rfl ?_
       (try (conv => whnf)); (repeat ((first | refine qT ?_ | refine qF ?_ | refine qO ?_ | (with_reducible intro z hz); (first | (replace hz := hz (by omega); subst hz) | subst hz)); (try (conv => whnf))))
       exact ⟨k + 1, ⟨by omega, by rw [take_at hx, take_at hy, hab, hxy]⟩, by dsimp only; omega, (qSL 0 rfl rfl)⟩
     · have hi := wd_ne hxy
       (try (conv => whnf)); (repeat ((first | refine qT ?_ | refine qF ?_ | refine qO ?_ | (with_reducible intro z hz); (first | (replace hz := hz (by omega); subst hz) | subst hz)); (try (conv => whnf))))
       refine Idx.mk k (wdv x) _ rfl (by simp [hx]) rfl ?_
       (try (conv => whnf)); (repeat ((first | refine qT ?_ | refine qF ?_ | refine qO ?_ | (with_reducible intro z hz); (first | (replace hz := hz (by omega); subst hz) | subst hz)); (try (conv => whnf))))
       refine Idx.mk k (wdv y) _ rfl (by simp [hy]) rfl ?_
       (try (conv => whnf)); (repeat ((first | refine qT ?_ | refine qF ?_ | refine qO ?_ | (with_reducible intro z hz); (first | (replace hz := hz (by omega); subst hz) | subst hz)); (try (conv => whnf))))
       rw [decide_eq_false (prefix_ne hx hy hxy)] at hfin
       exact hfin _ (ILes.refl _)
   | inr hge =>
     (try (conv => whnf)); (repeat ((first | refine qT ?_ | refine qF ?_ | refine qO ?_ | (with_reducible intro z hz); (first | (replace hz := hz (by omega); subst hz) | subst hz)); (try (conv => whnf))))
     obtain rfl : k = a.length := by omega
     rw [List.take_length, hl, List.take_length] at hab
     rw [decide_eq_true hab] at hfin
     exact hfin _ (ILes.refl _)
 · rw [decide_eq_false (fun e => hl (by rw [e]))]
   refine PC.of_va (T := tb0) eqs_ok tb_ok rfl mixed Try.func13 rfl rfl (Nat.le_of_ble_eq_true rfl) ?_; intro Γ C WK LP fin h0 hW hC hB hR hLP hfin
   (try (conv => whnf)); (repeat ((first | refine qT ?_ | refine qF ?_ | refine qO ?_ | (with_reducible intro z hz); (first | (replace hz := hz (by omega); subst hz) | subst hz)); (try (conv => whnf))))
   exact hfin _ (ILes.refl _)
end Go.Proofs.Ytckamfmllkpafaa.Pw
