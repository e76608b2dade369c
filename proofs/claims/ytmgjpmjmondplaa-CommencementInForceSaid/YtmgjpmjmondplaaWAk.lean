/-
  The days in force, by the reference.
-/
import Derived.Test.YtmgjpmjmondplaaWAi
namespace Go.Proofs.Ytmgjpmjmondplaa.Pe
open Go Go.Pv Go.RowKit
set_option linter.unusedSimpArgs false
open Spans Rm
set_option maxRecDepth 10000
set_option maxHeartbeats 16000000
theorem rspans_pc (a : St) (e : En) (l : List En) (hl : l.length ≤ 1000) : PC Try.prog env0 22 [stv a, env1 e, .sl 28 (l.map env1)] [.sl 2 ((forceL a e l).map spv)] := by
 have hml : (l.map env1).length = l.length := List.length_map _
 unfold forceL
 by_cases hk0 : 0 ≤ e.it.kind
 rotate_left
 · rw [if_neg (fun h => hk0 h.1)]
   rw [env_eq e]
   unfold stv
   refine PC.of_va (T := tb0) eqs_ok tb_ok rfl mixed Try.func22 rfl rfl (Nat.le_of_ble_eq_true rfl) ?_; intro Γ C WK LP fin h0 hW hC hB hR hLP hfin
   (try (conv => whnf)); (repeat ((first | refine qT ?_ | refine qF ?_ | refine qO ?_ | (with_reducible intro z hz); (first | (replace hz := hz (by omega); subst hz) | subst hz)); (try (conv => whnf))))
   refine Imms.mk [] rfl ?_
   exact hfin _ (ILes.refl _)
 by_cases hk6 : e.it.kind ≤ 6
 rotate_left
 · rw [if_neg (fun h => hk6 h.2)]
   rw [env_eq e]
   unfold stv
   refine PC.of_va (T := tb0) eqs_ok tb_ok rfl mixed Try.func22 rfl rfl (Nat.le_of_ble_eq_true rfl) ?_; intro Γ C WK LP fin h0 hW hC hB hR hLP hfin
   (try (conv => whnf)); (repeat ((first | refine qT ?_ | refine qF ?_ | refine qO ?_ | (with_reducible intro z hz); (first | (replace hz := hz (by omega); subst hz) | subst hz)); (try (conv => whnf))))
   refine Imms.mk [] rfl ?_
   exact hfin _ (ILes.refl _)
 rw [if_pos ⟨hk0, hk6⟩]
 have hX := rule_pc a e.it.st
 have hI := begins_pc (effS a e.it.st) l (by omega)
 generalize hr : effS a e.it.st = r at *
 have hP0 := dayP_has (stD r l)
 generalize dayP (stD r l) = P0 at *
 rw [env_eq e]
 unfold stv at *
 refine PC.of_va (T := tb0) eqs_ok tb_ok rfl mixed Try.func22 rfl rfl (Nat.le_of_ble_eq_true rfl) ?_; intro Γ C WK LP fin h0 hW hC hB hR hLP hfin
 (try (conv => whnf)); (repeat ((first | refine qT ?_ | refine qF ?_ | refine qO ?_ | (with_reducible intro z hz); (first | (replace hz := hz (by omega); subst hz) | subst hz) | (refine CallV.mk _ (hC _ _ _ (PCw.of hX)) (fun js hjs => ?_); subst hjs) | (refine CallV.mk _ (hC _ _ _ (PCw.of hI)) (fun js hjs => ?_); subst hjs)); (try (conv => whnf))))
 refine hLP _ _ _ Nat (fun k => ⟨[(2, .imm (.sl 28 (l.map env1))), (4, .ptr 1 1 0), (7, .imm (.sl 2 ((canon (daysP P0 e (l.take k))).map spv))), (8, .imm (.int .i64 (k : Nat)))], [bxS a, bxE e]⟩) (fun k => k ≤ l.length) (fun k => l.length - k) 0 (Nat.zero_le _) (qSL 2 rfl rfl) ?_
 intro k hk
 have hho := Nat.lt_or_ge k l.length
 cases hho with
 | inl hlt =>
   obtain ⟨x, hx⟩ : ∃ x, l[k]? = some x := ⟨l[k], List.getElem?_eq_getElem hlt⟩
   have hst := days_take (P := P0) (e := e) hx
   have hPk : HasC (daysP P0 e (l.take k)) (1 + (l.take k).length) := days_has hP0
   rw [List.length_take, Nat.min_eq_left hk] at hPk
   generalize daysP P0 e (l.take k) = P at *
   have hRf := names_pc x.it e.act e.item
   rw [imv_eq] at hRf
   have hlen := hPk.2
   cases hr : refers x.it e.act e.item with
   | false =>
     rw [hr] at hRf
     rw [step_no hr] at hst
     (try (conv => whnf)); (repeat ((first | refine qT ?_ | refine qF ?_ | refine qO ?_ | (with_reducible intro z hz); (first | (replace hz := hz (by omega); subst hz) | subst hz)); (try (conv => whnf))))
     refine Idx.mk k (env1 x) _ rfl (by simp [hx]) rfl ?_
     (try (conv => whnf)); (repeat ((first | refine qT ?_ | refine qF ?_ | refine qO ?_ | (with_reducible intro z hz); (first | (replace hz := hz (by omega); subst hz) | subst hz) | (refine CallV.mk _ (hC _ _ _ (PCw.of hRf)) (fun js hjs => ?_); subst hjs)); (try (conv => whnf))))
     refine ⟨k + 1, by omega, by dsimp only; omega, ?_⟩
     dsimp only []
     rw [hst]
     exact (qSL 2 rfl rfl)
   | true =>
     rw [hr] at hRf
     by_cases h7 : x.it.kind = 7 ∨ x.it.kind = 9
     · rw [step_ext hr h7] at hst
       have ht2 := (hPk.trunc x.it.d).2
       have hX2 := since_pc (canon P) x.it.d (by omega) (by rw [trunc_canon hPk]; omega)
       rw [ext_canon hPk] at hX2
       rcases h7 with h7 | h7
       · (try (conv => whnf)); (repeat ((first | refine qT ?_ | refine qF ?_ | refine qO ?_ | (with_reducible intro z hz); (first | (replace hz := hz (by omega); subst hz) | subst hz)); (try (conv => whnf))))
         refine Idx.mk k (env1 x) _ rfl (by simp [hx]) rfl ?_
         (try (conv => whnf)); (repeat ((first | refine qT ?_ | refine qF ?_ | refine qO ?_ | (with_reducible intro z hz); (first | (replace hz := hz (by omega); subst hz) | subst hz) | (refine CallV.mk _ (hC _ _ _ (PCw.of hRf)) (fun js hjs => ?_); subst hjs) | (refine CallV.mk _ (hC _ _ _ (PCw.of hX2)) (fun js hjs => ?_); subst hjs)); (try (conv => whnf))))
         refine ⟨k + 1, by omega, by dsimp only; omega, ?_⟩
         dsimp only []
         rw [hst]
         exact (qSL 2 rfl rfl)
       · (try (conv => whnf)); (repeat ((first | refine qT ?_ | refine qF ?_ | refine qO ?_ | (with_reducible intro z hz); (first | (replace hz := hz (by omega); subst hz) | subst hz)); (try (conv => whnf))))
         refine Idx.mk k (env1 x) _ rfl (by simp [hx]) rfl ?_
         (try (conv => whnf)); (repeat ((first | refine qT ?_ | refine qF ?_ | refine qO ?_ | (with_reducible intro z hz); (first | (replace hz := hz (by omega); subst hz) | subst hz) | (refine CallV.mk _ (hC _ _ _ (PCw.of hRf)) (fun js hjs => ?_); subst hjs) | (refine CallV.mk _ (hC _ _ _ (PCw.of hX2)) (fun js hjs => ?_); subst hjs)); (try (conv => whnf))))
         refine ⟨k + 1, by omega, by dsimp only; omega, ?_⟩
         dsimp only []
         rw [hst]
         exact (qSL 2 rfl rfl)
     by_cases h8 : x.it.kind = 8
     · rw [step_trunc hr h8] at hst
       have hX2 := until_pc (canon P) x.it.d (by omega)
       rw [trunc_canon hPk] at hX2
       (try (conv => whnf)); (repeat ((first | refine qT ?_ | refine qF ?_ | refine qO ?_ | (with_reducible intro z hz); (first | (replace hz := hz (by omega); subst hz) | subst hz)); (try (conv => whnf))))
       refine Idx.mk k (env1 x) _ rfl (by simp [hx]) rfl ?_
       (try (conv => whnf)); (repeat ((first | refine qT ?_ | refine qF ?_ | refine qO ?_ | (with_reducible intro z hz); (first | (replace hz := hz (by omega); subst hz) | subst hz) | (refine CallV.mk _ (hC _ _ _ (PCw.of hRf)) (fun js hjs => ?_); subst hjs) | (refine CallV.mk _ (hC _ _ _ (PCw.of hX2)) (fun js hjs => ?_); subst hjs)); (try (conv => whnf))))
       refine ⟨k + 1, by omega, by dsimp only; omega, ?_⟩
       dsimp only []
       rw [hst]
       exact (qSL 2 rfl rfl)
     rw [step_other (by omega) h8 (by omega)] at hst
     (try (conv => whnf)); (repeat ((first | refine qT ?_ | refine qF ?_ | refine qO ?_ | (with_reducible intro z hz); (first | (replace hz := hz (by omega); subst hz) | subst hz)); (try (conv => whnf))))
     refine Idx.mk k (env1 x) _ rfl (by simp [hx]) rfl ?_
     (try (conv => whnf)); (repeat ((first | refine qT ?_ | refine qF ?_ | refine qO ?_ | (with_reducible intro z hz); (first | (replace hz := hz (by omega); subst hz) | subst hz) | (refine CallV.mk _ (hC _ _ _ (PCw.of hRf)) (fun js hjs => ?_); subst hjs)); (try (conv => whnf))))
     refine ⟨k + 1, by omega, by dsimp only; omega, ?_⟩
     dsimp only []
     rw [hst]
     exact (qSL 2 rfl rfl)
 | inr hge =>
   obtain rfl : k = l.length := by omega
   rw [List.take_length]
   (try (conv => whnf)); (repeat ((first | refine qT ?_ | refine qF ?_ | refine qO ?_ | (with_reducible intro z hz); (first | (replace hz := hz (by omega); subst hz) | subst hz)); (try (conv => whnf))))
   exact hfin _ (ILes.refl _)
end Go.Proofs.Ytmgjpmjmondplaa.Pe
