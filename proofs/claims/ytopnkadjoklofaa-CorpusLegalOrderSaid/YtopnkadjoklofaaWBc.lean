/-
  The reference's legal order; the law of it.
-/
import Derived.Test.YtopnkadjoklofaaWBb
namespace Go.Proofs.Ytopnkadjoklofaa.Po
open Go Go.Pv Go.RowKit
set_option linter.unusedSimpArgs false
set_option maxRecDepth 10000
set_option maxHeartbeats 16000000
theorem cmp_lt {a b : Int} (h : a < b) : cmpZ a b = -1 := if_pos h
theorem cmp_gt {a b : Int} (h : b < a) : cmpZ a b = 1 := by unfold cmpZ; rw [if_neg (by omega), if_pos h]
theorem cmp_self {a b : Int} (h : a = b) : cmpZ a b = 0 := by unfold cmpZ; rw [if_neg (by omega), if_neg (by omega)]
theorem leg_day {a b : En} {z : Int} (h : cmpZ a.day b.day = z) (hz : z ≠ 0) : legZ a b = z := by unfold legZ; rw [if_pos (by rw [h]; exact hz), h]
theorem leg_act {a b : En} {z : Int} (h0 : a.day = b.day) (h : cmpZ a.act b.act = z) (hz : z ≠ 0) : legZ a b = z := by unfold legZ; rw [if_neg (by rw [cmp_self h0]; simp), if_pos (by rw [h]; exact hz), h]
theorem leg_item {a b : En} (h0 : a.day = b.day) (h1 : a.act = b.act) : legZ a b = cmpZ a.item b.item := by unfold legZ; rw [if_neg (by rw [cmp_self h0]; simp), if_neg (by rw [cmp_self h1]; simp)]
theorem legal_pc (a b : En) : PC Try.prog env0 23 [env1 a, env1 b] [.int .i64 (legZ a b)] := by
 rw [env_eq a, env_eq b]
 refine PC.of_va (T := tb0) eqs_ok tb_ok rfl mixed Try.func23 rfl rfl (Nat.le_of_ble_eq_true rfl) ?_; intro Γ C WK LP fin h0 hW hC hB hR hLP hfin
 (try (conv => whnf)); (repeat ((first | refine qT ?_ | refine qF ?_ | refine qO ?_ | (with_reducible intro z hz); (first | (replace hz := hz (by omega); subst hz) | subst hz)); (try (conv => whnf))))
 refine hLP _ _ _ Nat (fun k => ⟨[(5, .imm (.sl 1 [.int .i64 a.day, .int .i64 a.act, .int .i64 a.item])), (6, .imm (.sl 1 [.int .i64 b.day, .int .i64 b.act, .int .i64 b.item])), (7, .imm (.int .i64 (k : Nat)))], []⟩) (fun k => k ≤ 3 ∧ (0 < k → a.day = b.day) ∧ (1 < k → a.act = b.act) ∧ (2 < k → a.item = b.item)) (fun k => 3 - k) 0 ⟨by omega, by omega, by omega, by omega⟩ ((WeakA.frozen 2 ([.int .i64 a.day, .int .i64 a.act, .int .i64 a.item]) rfl (by first | rfl | simp) (ILe.refl _) (by repeat (first | exact trivial | refine And.intro (fzL_imm _ _ _ _) ?_ | refine And.intro rfl ?_))).trans ((WeakA.frozen 3 ([.int .i64 b.day, .int .i64 b.act, .int .i64 b.item]) rfl (by first | rfl | simp) (ILe.refl _) (by repeat (first | exact trivial | refine And.intro (fzL_imm _ _ _ _) ?_ | refine And.intro rfl ?_))).trans (qSL 0 rfl rfl))) ?_
 rintro k ⟨hk, k1, k2, k3⟩
 have hc : k = 0 ∨ k = 1 ∨ k = 2 ∨ k = 3 := by omega
 rcases hc with rfl | rfl | rfl | rfl
 · rcases Int.lt_trichotomy a.day b.day with h | h | h
   · rw [leg_day (cmp_lt h) (by decide)] at hfin
     (try (conv => whnf)); (repeat ((first | refine qT ?_ | refine qF ?_ | refine qO ?_ | (with_reducible intro z hz); (first | (replace hz := hz (by omega); subst hz) | subst hz)); (try (conv => whnf))))
     refine Idx.mk 0 (.int .i64 a.day) _ rfl rfl rfl ?_
     (try (conv => whnf)); (repeat ((first | refine qT ?_ | refine qF ?_ | refine qO ?_ | (with_reducible intro z hz); (first | (replace hz := hz (by omega); subst hz) | subst hz)); (try (conv => whnf))))
     refine Idx.mk 0 (.int .i64 b.day) _ rfl rfl rfl ?_
     (try (conv => whnf)); (repeat ((first | refine qT ?_ | refine qF ?_ | refine qO ?_ | (with_reducible intro z hz); (first | (replace hz := hz (by omega); subst hz) | subst hz)); (try (conv => whnf))))
     exact hfin _ (ILes.refl _)
   · (try (conv => whnf)); (repeat ((first | refine qT ?_ | refine qF ?_ | refine qO ?_ | (with_reducible intro z hz); (first | (replace hz := hz (by omega); subst hz) | subst hz)); (try (conv => whnf))))
     refine Idx.mk 0 (.int .i64 a.day) _ rfl rfl rfl ?_
     (try (conv => whnf)); (repeat ((first | refine qT ?_ | refine qF ?_ | refine qO ?_ | (with_reducible intro z hz); (first | (replace hz := hz (by omega); subst hz) | subst hz)); (try (conv => whnf))))
     refine Idx.mk 0 (.int .i64 b.day) _ rfl rfl rfl ?_
     (try (conv => whnf)); (repeat ((first | refine qT ?_ | refine qF ?_ | refine qO ?_ | (with_reducible intro z hz); (first | (replace hz := hz (by omega); subst hz) | subst hz)); (try (conv => whnf))))
     refine Idx.mk 0 (.int .i64 a.day) _ rfl rfl rfl ?_
     (try (conv => whnf)); (repeat ((first | refine qT ?_ | refine qF ?_ | refine qO ?_ | (with_reducible intro z hz); (first | (replace hz := hz (by omega); subst hz) | subst hz)); (try (conv => whnf))))
     refine Idx.mk 0 (.int .i64 b.day) _ rfl rfl rfl ?_
     (try (conv => whnf)); (repeat ((first | refine qT ?_ | refine qF ?_ | refine qO ?_ | (with_reducible intro z hz); (first | (replace hz := hz (by omega); subst hz) | subst hz)); (try (conv => whnf))))
     exact ⟨1, ⟨by omega, fun _ => h, by omega, by omega⟩, by dsimp only; omega, (qSL 0 rfl rfl)⟩
   · rw [leg_day (cmp_gt h) (by decide)] at hfin
     (try (conv => whnf)); (repeat ((first | refine qT ?_ | refine qF ?_ | refine qO ?_ | (with_reducible intro z hz); (first | (replace hz := hz (by omega); subst hz) | subst hz)); (try (conv => whnf))))
     refine Idx.mk 0 (.int .i64 a.day) _ rfl rfl rfl ?_
     (try (conv => whnf)); (repeat ((first | refine qT ?_ | refine qF ?_ | refine qO ?_ | (with_reducible intro z hz); (first | (replace hz := hz (by omega); subst hz) | subst hz)); (try (conv => whnf))))
     refine Idx.mk 0 (.int .i64 b.day) _ rfl rfl rfl ?_
     (try (conv => whnf)); (repeat ((first | refine qT ?_ | refine qF ?_ | refine qO ?_ | (with_reducible intro z hz); (first | (replace hz := hz (by omega); subst hz) | subst hz)); (try (conv => whnf))))
     refine Idx.mk 0 (.int .i64 a.day) _ rfl rfl rfl ?_
     (try (conv => whnf)); (repeat ((first | refine qT ?_ | refine qF ?_ | refine qO ?_ | (with_reducible intro z hz); (first | (replace hz := hz (by omega); subst hz) | subst hz)); (try (conv => whnf))))
     refine Idx.mk 0 (.int .i64 b.day) _ rfl rfl rfl ?_
     (try (conv => whnf)); (repeat ((first | refine qT ?_ | refine qF ?_ | refine qO ?_ | (with_reducible intro z hz); (first | (replace hz := hz (by omega); subst hz) | subst hz)); (try (conv => whnf))))
     exact hfin _ (ILes.refl _)
 · have e1 := k1 (by omega)
   rcases Int.lt_trichotomy a.act b.act with h | h | h
   · rw [leg_act e1 (cmp_lt h) (by decide)] at hfin
     (try (conv => whnf)); (repeat ((first | refine qT ?_ | refine qF ?_ | refine qO ?_ | (with_reducible intro z hz); (first | (replace hz := hz (by omega); subst hz) | subst hz)); (try (conv => whnf))))
     refine Idx.mk 1 (.int .i64 a.act) _ rfl rfl rfl ?_
     (try (conv => whnf)); (repeat ((first | refine qT ?_ | refine qF ?_ | refine qO ?_ | (with_reducible intro z hz); (first | (replace hz := hz (by omega); subst hz) | subst hz)); (try (conv => whnf))))
     refine Idx.mk 1 (.int .i64 b.act) _ rfl rfl rfl ?_
     (try (conv => whnf)); (repeat ((first | refine qT ?_ | refine qF ?_ | refine qO ?_ | (with_reducible intro z hz); (first | (replace hz := hz (by omega); subst hz) | subst hz)); (try (conv => whnf))))
     exact hfin _ (ILes.refl _)
   · (try (conv => whnf)); (repeat ((first | refine qT ?_ | refine qF ?_ | refine qO ?_ | (with_reducible intro z hz); (first | (replace hz := hz (by omega); subst hz) | subst hz)); (try (conv => whnf))))
     refine Idx.mk 1 (.int .i64 a.act) _ rfl rfl rfl ?_
     (try (conv => whnf)); (repeat ((first | refine qT ?_ | refine qF ?_ | refine qO ?_ | (with_reducible intro z hz); (first | (replace hz := hz (by omega); subst hz) | subst hz)); (try (conv => whnf))))
     refine Idx.mk 1 (.int .i64 b.act) _ rfl rfl rfl ?_
     (try (conv => whnf)); (repeat ((first | refine qT ?_ | refine qF ?_ | refine qO ?_ | (with_reducible intro z hz); (first | (replace hz := hz (by omega); subst hz) | subst hz)); (try (conv => whnf))))
     refine Idx.mk 1 (.int .i64 a.act) _ rfl rfl rfl ?_
     (try (conv => whnf)); (repeat ((first | refine qT ?_ | refine qF ?_ | refine qO ?_ | (with_reducible intro z hz); (first | (replace hz := hz (by omega); subst hz) | subst hz)); (try (conv => whnf))))
     refine Idx.mk 1 (.int .i64 b.act) _ rfl rfl rfl ?_
     (try (conv => whnf)); (repeat ((first | refine qT ?_ | refine qF ?_ | refine qO ?_ | (with_reducible intro z hz); (first | (replace hz := hz (by omega); subst hz) | subst hz)); (try (conv => whnf))))
     exact ⟨2, ⟨by omega, fun _ => e1, fun _ => h, by omega⟩, by dsimp only; omega, (qSL 0 rfl rfl)⟩
   · rw [leg_act e1 (cmp_gt h) (by decide)] at hfin
     (try (conv => whnf)); (repeat ((first | refine qT ?_ | refine qF ?_ | refine qO ?_ | (with_reducible intro z hz); (first | (replace hz := hz (by omega); subst hz) | subst hz)); (try (conv => whnf))))
     refine Idx.mk 1 (.int .i64 a.act) _ rfl rfl rfl ?_
     (try (conv => whnf)); (repeat ((first | refine qT ?_ | refine qF ?_ | refine qO ?_ | (with_reducible intro z hz); (first | (replace hz := hz (by omega); subst hz) | subst hz)); (try (conv => whnf))))
     refine Idx.mk 1 (.int .i64 b.act) _ rfl rfl rfl ?_
     (try (conv => whnf)); (repeat ((first | refine qT ?_ | refine qF ?_ | refine qO ?_ | (with_reducible intro z hz); (first | (replace hz := hz (by omega); subst hz) | subst hz)); (try (conv => whnf))))
     refine Idx.mk 1 (.int .i64 a.act) _ rfl rfl rfl ?_
     (try (conv => whnf)); (repeat ((first | refine qT ?_ | refine qF ?_ | refine qO ?_ | (with_reducible intro z hz); (first | (replace hz := hz (by omega); subst hz) | subst hz)); (try (conv => whnf))))
     refine Idx.mk 1 (.int .i64 b.act) _ rfl rfl rfl ?_
     (try (conv => whnf)); (repeat ((first | refine qT ?_ | refine qF ?_ | refine qO ?_ | (with_reducible intro z hz); (first | (replace hz := hz (by omega); subst hz) | subst hz)); (try (conv => whnf))))
     exact hfin _ (ILes.refl _)
 · have e1 := k1 (by omega)
   have e2 := k2 (by omega)
   rcases Int.lt_trichotomy a.item b.item with h | h | h
   · rw [(leg_item e1 e2).trans (cmp_lt h)] at hfin
     (try (conv => whnf)); (repeat ((first | refine qT ?_ | refine qF ?_ | refine qO ?_ | (with_reducible intro z hz); (first | (replace hz := hz (by omega); subst hz) | subst hz)); (try (conv => whnf))))
     refine Idx.mk 2 (.int .i64 a.item) _ rfl rfl rfl ?_
     (try (conv => whnf)); (repeat ((first | refine qT ?_ | refine qF ?_ | refine qO ?_ | (with_reducible intro z hz); (first | (replace hz := hz (by omega); subst hz) | subst hz)); (try (conv => whnf))))
     refine Idx.mk 2 (.int .i64 b.item) _ rfl rfl rfl ?_
     (try (conv => whnf)); (repeat ((first | refine qT ?_ | refine qF ?_ | refine qO ?_ | (with_reducible intro z hz); (first | (replace hz := hz (by omega); subst hz) | subst hz)); (try (conv => whnf))))
     exact hfin _ (ILes.refl _)
   · (try (conv => whnf)); (repeat ((first | refine qT ?_ | refine qF ?_ | refine qO ?_ | (with_reducible intro z hz); (first | (replace hz := hz (by omega); subst hz) | subst hz)); (try (conv => whnf))))
     refine Idx.mk 2 (.int .i64 a.item) _ rfl rfl rfl ?_
     (try (conv => whnf)); (repeat ((first | refine qT ?_ | refine qF ?_ | refine qO ?_ | (with_reducible intro z hz); (first | (replace hz := hz (by omega); subst hz) | subst hz)); (try (conv => whnf))))
     refine Idx.mk 2 (.int .i64 b.item) _ rfl rfl rfl ?_
     (try (conv => whnf)); (repeat ((first | refine qT ?_ | refine qF ?_ | refine qO ?_ | (with_reducible intro z hz); (first | (replace hz := hz (by omega); subst hz) | subst hz)); (try (conv => whnf))))
     refine Idx.mk 2 (.int .i64 a.item) _ rfl rfl rfl ?_
     (try (conv => whnf)); (repeat ((first | refine qT ?_ | refine qF ?_ | refine qO ?_ | (with_reducible intro z hz); (first | (replace hz := hz (by omega); subst hz) | subst hz)); (try (conv => whnf))))
     refine Idx.mk 2 (.int .i64 b.item) _ rfl rfl rfl ?_
     (try (conv => whnf)); (repeat ((first | refine qT ?_ | refine qF ?_ | refine qO ?_ | (with_reducible intro z hz); (first | (replace hz := hz (by omega); subst hz) | subst hz)); (try (conv => whnf))))
     exact ⟨3, ⟨by omega, fun _ => e1, fun _ => e2, fun _ => h⟩, by dsimp only; omega, (qSL 0 rfl rfl)⟩
   · rw [(leg_item e1 e2).trans (cmp_gt h)] at hfin
     (try (conv => whnf)); (repeat ((first | refine qT ?_ | refine qF ?_ | refine qO ?_ | (with_reducible intro z hz); (first | (replace hz := hz (by omega); subst hz) | subst hz)); (try (conv => whnf))))
     refine Idx.mk 2 (.int .i64 a.item) _ rfl rfl rfl ?_
     (try (conv => whnf)); (repeat ((first | refine qT ?_ | refine qF ?_ | refine qO ?_ | (with_reducible intro z hz); (first | (replace hz := hz (by omega); subst hz) | subst hz)); (try (conv => whnf))))
     refine Idx.mk 2 (.int .i64 b.item) _ rfl rfl rfl ?_
     (try (conv => whnf)); (repeat ((first | refine qT ?_ | refine qF ?_ | refine qO ?_ | (with_reducible intro z hz); (first | (replace hz := hz (by omega); subst hz) | subst hz)); (try (conv => whnf))))
     refine Idx.mk 2 (.int .i64 a.item) _ rfl rfl rfl ?_
     (try (conv => whnf)); (repeat ((first | refine qT ?_ | refine qF ?_ | refine qO ?_ | (with_reducible intro z hz); (first | (replace hz := hz (by omega); subst hz) | subst hz)); (try (conv => whnf))))
     refine Idx.mk 2 (.int .i64 b.item) _ rfl rfl rfl ?_
     (try (conv => whnf)); (repeat ((first | refine qT ?_ | refine qF ?_ | refine qO ?_ | (with_reducible intro z hz); (first | (replace hz := hz (by omega); subst hz) | subst hz)); (try (conv => whnf))))
     exact hfin _ (ILes.refl _)
 · have e1 := k1 (by omega)
   have e2 := k2 (by omega)
   have e3 := k3 (by omega)
   rw [leg_item e1 e2, cmp_self e3] at hfin
   (try (conv => whnf)); (repeat ((first | refine qT ?_ | refine qF ?_ | refine qO ?_ | (with_reducible intro z hz); (first | (replace hz := hz (by omega); subst hz) | subst hz)); (try (conv => whnf))))
   exact hfin _ (ILes.refl _)
def ltE (a b : En) : Prop := a.day < b.day ∨ a.day = b.day ∧ (a.act < b.act ∨ a.act = b.act ∧ a.item < b.item)
theorem leg_spec (a b : En) : legZ a b = -1 ∧ ltE a b ∨ legZ a b = 1 ∧ ltE b a ∨ legZ a b = 0 ∧ a.day = b.day ∧ a.act = b.act ∧ a.item = b.item := by
 unfold ltE
 rcases Int.lt_trichotomy a.day b.day with h | h | h
 · exact Or.inl ⟨leg_day (cmp_lt h) (by decide), Or.inl h⟩
 · rcases Int.lt_trichotomy a.act b.act with h1 | h1 | h1
   · exact Or.inl ⟨leg_act h (cmp_lt h1) (by decide), Or.inr ⟨h, Or.inl h1⟩⟩
   · have hi := leg_item h h1
     rcases Int.lt_trichotomy a.item b.item with h2 | h2 | h2
     · exact Or.inl ⟨hi.trans (cmp_lt h2), Or.inr ⟨h, Or.inr ⟨h1, h2⟩⟩⟩
     · exact Or.inr (Or.inr ⟨hi.trans (cmp_self h2), h, h1, h2⟩)
     · exact Or.inr (Or.inl ⟨hi.trans (cmp_gt h2), Or.inr ⟨h.symm, Or.inr ⟨h1.symm, h2⟩⟩⟩)
   · exact Or.inr (Or.inl ⟨leg_act h (cmp_gt h1) (by decide), Or.inr ⟨h.symm, Or.inl h1⟩⟩)
 · exact Or.inr (Or.inl ⟨leg_day (cmp_gt h) (by decide), Or.inl h⟩)
theorem sgn (a b : En) : legZ a b = -1 ∨ legZ a b = 1 ∨ legZ a b = 0 := by
 rcases leg_spec a b with h | h | h
 · exact Or.inl h.1
 · exact Or.inr (Or.inl h.1)
 · exact Or.inr (Or.inr h.1)
theorem leg_anti (a b : En) : legZ b a = 0 - legZ a b := by
 rcases leg_spec a b with ⟨h, g⟩ | ⟨h, g⟩ | ⟨h, g⟩ <;> rcases leg_spec b a with ⟨h', g'⟩ | ⟨h', g'⟩ | ⟨h', g'⟩ <;> (try unfold ltE at g) <;> (try unfold ltE at g') <;> omega
theorem leg_refl (a : En) : legZ a a = 0 := by
 rcases leg_spec a a with ⟨h, g⟩ | ⟨h, g⟩ | ⟨h, g⟩
 · unfold ltE at g; omega
 · unfold ltE at g; omega
 · exact h
theorem leg_trans (a b c : En) : (legZ a b ≤ 0 → legZ b c ≤ 0 → legZ a c ≤ 0) ∧ (legZ a b < 0 → legZ b c ≤ 0 → legZ a c < 0) := by
 rcases leg_spec a b with ⟨h, g⟩ | ⟨h, g⟩ | ⟨h, g⟩ <;> rcases leg_spec b c with ⟨h', g'⟩ | ⟨h', g'⟩ | ⟨h', g'⟩ <;> rcases leg_spec a c with ⟨k, q⟩ | ⟨k, q⟩ | ⟨k, q⟩ <;> rw [h, h', k] <;> first | exact ⟨fun _ _ => by decide, fun _ _ => by decide⟩ | exact ⟨fun x => absurd x (by decide), fun x => absurd x (by decide)⟩ | exact ⟨fun _ x => absurd x (by decide), fun _ x => absurd x (by decide)⟩ | (exfalso; (try unfold ltE at g); (try unfold ltE at g'); (try unfold ltE at q); omega) | exact ⟨fun _ _ => by decide, fun x => absurd x (by decide)⟩
theorem lawLegal (a b c : En) : PC Try.prog env0 5 [env1 a, env1 b, env1 c] [.bool true] := by
 have hA := awake_pc
 have h1 := compare_pc a b
 have h2 := compare_pc b c
 have h3 := compare_pc a c
 have h4 := legal_pc a b
 have h5 := compare_pc b a
 have h6 := compare_pc a a
 rw [leg_anti a b] at h5
 rw [leg_refl a] at h6
 obtain ⟨t1, t2⟩ := leg_trans a b c
 have r1 : legZ a b = -1 ∨ legZ a b = 1 ∨ legZ a b = 0 := sgn a b
 have r2 : legZ b c = -1 ∨ legZ b c = 1 ∨ legZ b c = 0 := sgn b c
 have r3 : legZ a c = -1 ∨ legZ a c = 1 ∨ legZ a c = 0 := sgn a c
 generalize legZ a b = x at *
 generalize legZ b c = y at *
 generalize legZ a c = z at *
 rw [env_eq a, env_eq b] at h1 h4
 rw [env_eq b, env_eq c] at h2
 rw [env_eq a, env_eq c] at h3
 rw [env_eq a, env_eq b] at h5
 rw [env_eq a] at h6
 rw [env_eq a, env_eq b, env_eq c]
 rcases r1 with rfl | rfl | rfl <;> rcases r2 with rfl | rfl | rfl <;> rcases r3 with rfl | rfl | rfl
 all_goals (first | (exfalso; omega) | skip)
 all_goals (refine PC.of_va (T := tb0) eqs_ok tb_ok rfl mixed Try.func5 rfl rfl (Nat.le_of_ble_eq_true rfl) ?_; intro Γ C WK LP fin h0 hW hC hB hR hLP hfin)
 all_goals ((try (conv => whnf)); (repeat ((first | refine qT ?_ | refine qF ?_ | refine qO ?_ | (with_reducible intro z hz); (first | (replace hz := hz (by omega); subst hz) | subst hz)); (try (conv => whnf)))))
 all_goals (refine CallV.mk _ (hC _ _ _ (PCw.of (h1))) (fun js hjs => ?_); subst hjs)
 all_goals ((try (conv => whnf)); (repeat ((first | refine qT ?_ | refine qF ?_ | refine qO ?_ | (with_reducible intro z hz); (first | (replace hz := hz (by omega); subst hz) | subst hz)); (try (conv => whnf)))))
 all_goals (refine CallV.mk _ (hC _ _ _ (PCw.of (h2))) (fun js hjs => ?_); subst hjs)
 all_goals ((try (conv => whnf)); (repeat ((first | refine qT ?_ | refine qF ?_ | refine qO ?_ | (with_reducible intro z hz); (first | (replace hz := hz (by omega); subst hz) | subst hz)); (try (conv => whnf)))))
 all_goals (refine CallV.mk _ (hC _ _ _ (PCw.of (h3))) (fun js hjs => ?_); subst hjs)
 all_goals ((try (conv => whnf)); (repeat ((first | refine qT ?_ | refine qF ?_ | refine qO ?_ | (with_reducible intro z hz); (first | (replace hz := hz (by omega); subst hz) | subst hz)); (try (conv => whnf)))))
 all_goals (refine CallV.mk _ (hC _ _ _ (PCw.of (h4))) (fun js hjs => ?_); subst hjs)
 all_goals ((try (conv => whnf)); (repeat ((first | refine qT ?_ | refine qF ?_ | refine qO ?_ | (with_reducible intro z hz); (first | (replace hz := hz (by omega); subst hz) | subst hz)); (try (conv => whnf)))))
 all_goals (refine CallV.mk _ (hC _ _ _ (PCw.of (h5))) (fun js hjs => ?_); subst hjs)
 all_goals ((try (conv => whnf)); (repeat ((first | refine qT ?_ | refine qF ?_ | refine qO ?_ | (with_reducible intro z hz); (first | (replace hz := hz (by omega); subst hz) | subst hz)); (try (conv => whnf)))))
 all_goals (refine CallV.mk _ (hC _ _ _ (PCw.of (h6))) (fun js hjs => ?_); subst hjs)
 all_goals ((try (conv => whnf)); (repeat ((first | refine qT ?_ | refine qF ?_ | refine qO ?_ | (with_reducible intro z hz); (first | (replace hz := hz (by omega); subst hz) | subst hz)); (try (conv => whnf)))))
 all_goals (refine CallV.mk _ (hC _ _ _ (PCw.of (hA))) (fun js hjs => ?_); subst hjs)
 all_goals ((try (conv => whnf)); (repeat ((first | refine qT ?_ | refine qF ?_ | refine qO ?_ | (with_reducible intro z hz); (first | (replace hz := hz (by omega); subst hz) | subst hz)); (try (conv => whnf)))))
 all_goals (exact hfin _ (ILes.refl _))
theorem legalL (a : En) (_ : FitI a.it) (b : En) (_ : FitI b.it) (c : En) (_ : FitI c.it) : PC Try.prog env0 5 [env1 a, env1 b, env1 c] [.bool true] := lawLegal a b c
end Go.Proofs.Ytopnkadjoklofaa.Po
