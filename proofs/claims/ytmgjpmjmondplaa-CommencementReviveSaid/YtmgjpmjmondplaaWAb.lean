/-
  Instructions and enacted items as plain values; which order refers to an instruction; the law of it.
-/
import Derived.Test.YtmgjpmjmondplaaWAa
namespace Go.Proofs.Ytmgjpmjmondplaa.Pe
open Go Go.Pv Go.RowKit
set_option linter.unusedSimpArgs false
set_option maxRecDepth 10000
set_option maxHeartbeats 16000000
abbrev Str := ByteArray
structure St where
 k : Int
 d : Int
 e : Str
structure Im where
 kind : Int
 m : Nat → IV
 st : St
 a : Int
 i : Int
 d : Int
 ev : Str
 b : IV
structure En where
 act : Int
 item : Int
 day : Int
 it : Im
def stv (x : St) : IV := .agg [.int .i64 x.k, .int .i64 x.d, .str x.e]
def imv (x : Im) : IV := .agg [.int .i64 x.kind, x.m 1, x.m 2, x.m 3, x.m 4, x.m 5, x.m 6, x.m 7, x.m 8, x.m 9, x.m 10, x.m 11, x.m 12, x.m 13, x.m 14, x.m 15, x.m 16, .int .i64 x.st.k, .int .i64 x.st.d, .str x.st.e, .int .i64 x.a, .int .i64 x.i, .int .i64 x.d, .str x.ev, x.b]
def env1 (x : En) : IV := .agg [.int .i64 x.act, .int .i64 x.item, .int .i64 x.day, .int .i64 x.it.kind, x.it.m 1, x.it.m 2, x.it.m 3, x.it.m 4, x.it.m 5, x.it.m 6, x.it.m 7, x.it.m 8, x.it.m 9, x.it.m 10, x.it.m 11, x.it.m 12, x.it.m 13, x.it.m 14, x.it.m 15, x.it.m 16, .int .i64 x.it.st.k, .int .i64 x.it.st.d, .str x.it.st.e, .int .i64 x.it.a, .int .i64 x.it.i, .int .i64 x.it.d, .str x.it.ev, x.it.b]
def refers (x : Im) (a i : Int) : Bool := if x.kind = 7 ∨ x.kind = 8 ∨ x.kind = 9 then decide (x.a = a) && (decide (x.i = i) || decide (x.i = -1)) else if x.kind = 11 then decide (x.a = a) && decide (x.i = i) else false
theorem refers_cases {Q : Prop} (x : Im) (a i : Int) (h1 : (x.kind = 7 ∨ x.kind = 8 ∨ x.kind = 9) → x.a = a → x.i = i → refers x a i = true → Q) (h2 : (x.kind = 7 ∨ x.kind = 8 ∨ x.kind = 9) → x.a = a → ¬ x.i = i → x.i = -1 → refers x a i = true → Q) (h3 : (x.kind = 7 ∨ x.kind = 8 ∨ x.kind = 9) → x.a = a → ¬ x.i = i → ¬ x.i = -1 → refers x a i = false → Q)
   (h4 : (x.kind = 7 ∨ x.kind = 8 ∨ x.kind = 9) → ¬ x.a = a → refers x a i = false → Q) (h5 : x.kind = 11 → x.a = a → x.i = i → refers x a i = true → Q) (h6 : x.kind = 11 → x.a = a → ¬ x.i = i → refers x a i = false → Q) (h7 : x.kind = 11 → ¬ x.a = a → refers x a i = false → Q)
   (h8 : ¬ x.kind = 7 → ¬ x.kind = 8 → ¬ x.kind = 9 → ¬ x.kind = 11 → refers x a i = false → Q) : Q := by
 unfold refers at *
 by_cases c1 : x.kind = 7 ∨ x.kind = 8 ∨ x.kind = 9
 · by_cases c2 : x.a = a
   · by_cases c3 : x.i = i
     · exact h1 c1 c2 c3 (by simp [c1, c2, c3])
     · by_cases c4 : x.i = -1
       · exact h2 c1 c2 c3 c4 (by rw [if_pos c1]; simp [c2, c4])
       · exact h3 c1 c2 c3 c4 (by simp [c1, c2, c3, c4])
   · exact h4 c1 c2 (by simp [c1, c2])
 · by_cases c5 : x.kind = 11
   · by_cases c2 : x.a = a
     · by_cases c3 : x.i = i
       · exact h5 c5 c2 c3 (by simp [c5, c2, c3])
       · exact h6 c5 c2 c3 (by simp [c5, c2, c3])
     · exact h7 c5 c2 (by simp [c5, c2])
   · exact h8 (fun h => c1 (Or.inl h)) (fun h => c1 (Or.inr (Or.inl h))) (fun h => c1 (Or.inr (Or.inr h))) c5 (by simp [c1, c5])
theorem refers_pc (x : Im) (a i : Int) : PC Try.prog env0 19 [imv x, .int .i64 a, .int .i64 i] [.bool (refers x a i)] := by
 unfold imv
 apply refers_cases x a i
 · rintro (h | h | h) c2 c3 hv
   all_goals (rw [hv])
   all_goals (refine PC.of_va (T := tb0) eqs_ok tb_ok rfl mixed Try.func19 rfl rfl (Nat.le_of_ble_eq_true rfl) ?_; intro Γ C WK LP fin h0 hW hC hB hR hLP hfin)
   all_goals ((try (conv => whnf)); (repeat ((first | refine qT ?_ | refine qF ?_ | refine qO ?_ | (with_reducible intro z hz); (first | (replace hz := hz (by omega); subst hz) | subst hz)); (try (conv => whnf)))))
   all_goals (exact hfin _ (ILes.refl _))
 · rintro (h | h | h) c2 c3 c4 hv
   all_goals (rw [hv])
   all_goals (refine PC.of_va (T := tb0) eqs_ok tb_ok rfl mixed Try.func19 rfl rfl (Nat.le_of_ble_eq_true rfl) ?_; intro Γ C WK LP fin h0 hW hC hB hR hLP hfin)
   all_goals ((try (conv => whnf)); (repeat ((first | refine qT ?_ | refine qF ?_ | refine qO ?_ | (with_reducible intro z hz); (first | (replace hz := hz (by omega); subst hz) | subst hz)); (try (conv => whnf)))))
   all_goals (exact hfin _ (ILes.refl _))
 · rintro (h | h | h) c2 c3 c4 hv
   all_goals (rw [hv])
   all_goals (refine PC.of_va (T := tb0) eqs_ok tb_ok rfl mixed Try.func19 rfl rfl (Nat.le_of_ble_eq_true rfl) ?_; intro Γ C WK LP fin h0 hW hC hB hR hLP hfin)
   all_goals ((try (conv => whnf)); (repeat ((first | refine qT ?_ | refine qF ?_ | refine qO ?_ | (with_reducible intro z hz); (first | (replace hz := hz (by omega); subst hz) | subst hz)); (try (conv => whnf)))))
   all_goals (exact hfin _ (ILes.refl _))
 · rintro (h | h | h) c2 hv
   all_goals (rw [hv])
   all_goals (refine PC.of_va (T := tb0) eqs_ok tb_ok rfl mixed Try.func19 rfl rfl (Nat.le_of_ble_eq_true rfl) ?_; intro Γ C WK LP fin h0 hW hC hB hR hLP hfin)
   all_goals ((try (conv => whnf)); (repeat ((first | refine qT ?_ | refine qF ?_ | refine qO ?_ | (with_reducible intro z hz); (first | (replace hz := hz (by omega); subst hz) | subst hz)); (try (conv => whnf)))))
   all_goals (exact hfin _ (ILes.refl _))
 · intro h c2 c3 hv
   all_goals (rw [hv])
   all_goals (refine PC.of_va (T := tb0) eqs_ok tb_ok rfl mixed Try.func19 rfl rfl (Nat.le_of_ble_eq_true rfl) ?_; intro Γ C WK LP fin h0 hW hC hB hR hLP hfin)
   all_goals ((try (conv => whnf)); (repeat ((first | refine qT ?_ | refine qF ?_ | refine qO ?_ | (with_reducible intro z hz); (first | (replace hz := hz (by omega); subst hz) | subst hz)); (try (conv => whnf)))))
   all_goals (exact hfin _ (ILes.refl _))
 · intro h c2 c3 hv
   all_goals (rw [hv])
   all_goals (refine PC.of_va (T := tb0) eqs_ok tb_ok rfl mixed Try.func19 rfl rfl (Nat.le_of_ble_eq_true rfl) ?_; intro Γ C WK LP fin h0 hW hC hB hR hLP hfin)
   all_goals ((try (conv => whnf)); (repeat ((first | refine qT ?_ | refine qF ?_ | refine qO ?_ | (with_reducible intro z hz); (first | (replace hz := hz (by omega); subst hz) | subst hz)); (try (conv => whnf)))))
   all_goals (exact hfin _ (ILes.refl _))
 · intro h c2 hv
   all_goals (rw [hv])
   all_goals (refine PC.of_va (T := tb0) eqs_ok tb_ok rfl mixed Try.func19 rfl rfl (Nat.le_of_ble_eq_true rfl) ?_; intro Γ C WK LP fin h0 hW hC hB hR hLP hfin)
   all_goals ((try (conv => whnf)); (repeat ((first | refine qT ?_ | refine qF ?_ | refine qO ?_ | (with_reducible intro z hz); (first | (replace hz := hz (by omega); subst hz) | subst hz)); (try (conv => whnf)))))
   all_goals (exact hfin _ (ILes.refl _))
 · intro c7 c8 c9 c11 hv
   all_goals (rw [hv])
   all_goals (refine PC.of_va (T := tb0) eqs_ok tb_ok rfl mixed Try.func19 rfl rfl (Nat.le_of_ble_eq_true rfl) ?_; intro Γ C WK LP fin h0 hW hC hB hR hLP hfin)
   all_goals ((try (conv => whnf)); (repeat ((first | refine qT ?_ | refine qF ?_ | refine qO ?_ | (with_reducible intro z hz); (first | (replace hz := hz (by omega); subst hz) | subst hz)); (try (conv => whnf)))))
   all_goals (exact hfin _ (ILes.refl _))
end Go.Proofs.Ytmgjpmjmondplaa.Pe
