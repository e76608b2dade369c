/-
  The initial set of days, by the program and by the reference; the law of it.
-/
import Derived.Test.YtmgjpmjmondplaaWAf
import Derived.Test.YtmgjpmjmondplaaWAg
import Derived.Test.YtmgjpmjmondplaaWAo
namespace Go.Proofs.Ytmgjpmjmondplaa.Pe
open Go Go.Pv Go.RowKit
set_option linter.unusedSimpArgs false
open Spans Rm
set_option maxRecDepth 10000
set_option maxHeartbeats 16000000
theorem extnil_pc (t : Int) : PC Try.prog env0 29 [.nil, .int .i64 t] [.sl 2 ((canon (dayP (some t))).map spv)] := by
 have h := PC.arg (args := [.nil, .int .i64 t]) (extend_pc [] t (by simp)) (.cons (ILe.nil _) (.refl _))
 rw [show canon (fun d => memB [] d || memB [(t, 1048577)] d) = canon (dayP (some t)) from canon_ext fun d _ _ => by simp [dayP, memB]] at h
 exact h
theorem initial_pc (s : St) (l : List En) (hl : l.length ≤ 1000000000) : PC Try.prog env0 17 [stv s, .sl 28 (l.map env1)] [.sl 2 ((canon (dayP (stD s l))).map spv)] := by
 have hE := eventday_pc s.e l hl
 unfold stD stv
 by_cases h1 : s.k = 1
 · rw [if_pos h1]
   have hX := extnil_pc s.d
   refine PC.of_va (T := tb0) eqs_ok tb_ok rfl mixed Try.func17 rfl rfl (Nat.le_of_ble_eq_true rfl) ?_; intro Γ C WK LP fin h0 hW hC hB hR hLP hfin
   (try (conv => whnf)); (repeat ((first | refine qT ?_ | refine qF ?_ | refine qO ?_ | (with_reducible intro z hz); (first | (replace hz := hz (by omega); subst hz) | subst hz) | (refine CallV.mk _ (hC _ _ _ (PCw.of hX)) (fun js hjs => ?_); subst hjs)); (try (conv => whnf))))
   exact hfin _ (ILes.refl _)
 rw [if_neg h1]
 by_cases h3 : s.k = 3
 · rw [if_pos h3]
   cases hq : evD s.e l with
   | some t =>
     rw [hq] at hE
     have hX := extnil_pc t
     refine PC.of_va (T := tb0) eqs_ok tb_ok rfl mixed Try.func17 rfl rfl (Nat.le_of_ble_eq_true rfl) ?_; intro Γ C WK LP fin h0 hW hC hB hR hLP hfin
     (try (conv => whnf)); (repeat ((first | refine qT ?_ | refine qF ?_ | refine qO ?_ | (with_reducible intro z hz); (first | (replace hz := hz (by omega); subst hz) | subst hz) | (refine CallV.mk _ (hC _ _ _ (PCw.of hE)) (fun js hjs => ?_); subst hjs) | (refine CallV.mk _ (hC _ _ _ (PCw.of hX)) (fun js hjs => ?_); subst hjs)); (try (conv => whnf))))
     exact hfin _ (ILes.refl _)
   | none =>
     rw [hq] at hE
     rw [day_none]
     refine PC.of_va (T := tb0) eqs_ok tb_ok rfl mixed Try.func17 rfl rfl (Nat.le_of_ble_eq_true rfl) ?_; intro Γ C WK LP fin h0 hW hC hB hR hLP hfin
     (try (conv => whnf)); (repeat ((first | refine qT ?_ | refine qF ?_ | refine qO ?_ | (with_reducible intro z hz); (first | (replace hz := hz (by omega); subst hz) | subst hz) | (refine CallV.mk _ (hC _ _ _ (PCw.of hE)) (fun js hjs => ?_); subst hjs)); (try (conv => whnf))))
     exact hfin _ (.cons (ILe.nil _) (.refl _))
 · rw [if_neg h3, day_none]
   refine PC.of_va (T := tb0) eqs_ok tb_ok rfl mixed Try.func17 rfl rfl (Nat.le_of_ble_eq_true rfl) ?_; intro Γ C WK LP fin h0 hW hC hB hR hLP hfin
   (try (conv => whnf)); (repeat ((first | refine qT ?_ | refine qF ?_ | refine qO ?_ | (with_reducible intro z hz); (first | (replace hz := hz (by omega); subst hz) | subst hz)); (try (conv => whnf))))
   exact hfin _ (.cons (ILe.nil _) (.refl _))
theorem same_self (L : List Sp) (hl : L.length ≤ 1000000000) : PC Try.prog env0 16 [.sl 2 (L.map spv), .sl 2 (L.map spv)] [.bool true] := by
 have h := same_pc L L hl hl
 rwa [decide_eq_true rfl] at h
end Go.Proofs.Ytmgjpmjmondplaa.Pe
