/-
  The initial set of days, by the program and by the reference; the law of it.
-/
import Derived.Test.YtmgjpmjmondplaaWAf
import Derived.Test.YtmgjpmjmondplaaWAg
import Derived.Test.YtmgjpmjmondplaaWAo
namespace Go.Proofs.Ytmgjpmjmondplaa.Pe
open Go Go.Pv Go.RowKit
set_option linter.unusedSimpArgs false
open Spans Rm
set_option maxRecDepth 10000
set_option maxHeartbeats 16000000
theorem extnil_pc (t : Int) : PC Try.prog env0 29 [.nil, .int .i64 t] [.sl 2 ((canon (dayP (some t))).map spv)] := by
 have h := PC.arg (args := [.nil, .int .i64 t]) (extend_pc [] t (by simp)) (.cons (ILe.nil _) (.refl _))
 rw [show canon (fun d => memB [] d || memB [(t, 1048577)] d) = canon (dayP (some t)) from canon_ext fun d _ _ => by simp [dayP, memB]] at h
 exact h
theorem initial_pc (s : St) (l : List En) (hl : l.length ≤ 1000000000) : PC Try.prog env0 17 [stv s, .sl 28 (l.map env1)] [.sl 2 ((canon (dayP (stD s l))).map spv)] := by
 have hE := eventday_pc s.e l hl
 unfold stD stv
 by_cases h1 : s.k = 1
 · rw [if_pos h1]
   have hX := extnil_pc s.d
   refine PC.of_va (T := tb0) eqs_ok tb_ok rfl mixed Try.func17 rfl rfl (Nat.le_of_ble_eq_true rfl) ?_; intro Γ C WK LP fin h0 hW hC hB hR hLP hfin
   (try (conv => whnf)); (repeat ((first | refine qT ?_ | refine qF ?_ | refine qO ?_ | (with_reducible intro z hz); (first | (replace hz := hz (by omega); subst hz) | subst hz) | (refine CallV.mk _ (hC _ _ _ (PCw.of hX)) (fun js hjs => ?_); subst hjs)); (try (conv => whnf))))
   exact hfin _ (ILes.refl _)
 rw [if_neg h1]
 by_cases h3 : s.k = 3
 · rw [if_pos h3]
   cases hq : evD s.e l with
   | some t =>
     rw [hq] at hE
     have hX := extnil_pc t
     refine PC.of_va (T := tb0) eqs_ok tb_ok rfl mixed Try.func17 rfl rfl (Nat.le_of_ble_eq_true rfl) ?_; intro Γ C WK LP fin h0 hW hC hB hR hLP hfin
     (try (conv => whnf)); (repeat ((first | refine qT ?_ | refine qF ?_ | refine qO ?_ | (with_reducible intro z hz); (first | (replace hz := hz (by omega); subst hz) | subst hz) | (refine CallV.mk _ (hC _ _ _ (PCw.of hE)) (fun js hjs => ?_); subst hjs) | (refine CallV.mk _ (hC _ _ _ (PCw.of hX)) (fun js hjs => ?_); subst hjs)); (try (conv => whnf))))
     exact hfin _ (ILes.refl _)
   | none =>
     rw [hq] at hE
     rw [day_none]
     refine PC.of_va (T := tb0) eqs_ok tb_ok rfl mixed Try.func17 rfl rfl (Nat.le_of_ble_eq_true rfl) ?_; intro Γ C WK LP fin h0 hW hC hB hR hLP hfin
     (try (conv => whnf)); (repeat ((first | refine qT ?_ | refine qF ?_ | refine qO ?_ | (with_reducible intro z hz); (first | (replace hz := hz (by omega); subst hz) | subst hz) | (refine CallV.mk _ (hC _ _ _ (PCw.of hE)) (fun js hjs => ?_); subst hjs)); (try (conv => whnf))))
     exact hfin _ (.cons (ILe.nil _) (.refl _))
 · rw [if_neg h3, day_none]
   refine PC.of_va (T := tb0) eqs_ok tb_ok rfl mixed Try.func17 rfl rfl (Nat.le_of_ble_eq_true rfl) ?_; intro Γ C WK LP fin h0 hW hC hB hR hLP hfin
   (try (conv => whnf)); (repeat ((first | refine qT ?_ | refine qF ?_ | refine qO ?_ | (with_reducible intro z hz); (first | (replace hz := hz (by omega); subst hz) | subst hz)); (try (conv => whnf))))
   exact hfin _ (.cons (ILe.nil _) (.refl _))
theorem begins_pc (s : St) (l : List En) (hl : l.length ≤ 1000000000) : PC Try.prog env0 18 [stv s, .sl 28 (l.map env1)] [.sl 2 ((canon (dayP (stD s l))).map spv)] := by
 have hE := event_pc s.e l hl
 unfold stD stv
 by_cases h1 : s.k = 1
 · rw [if_pos h1]
   have hX := from_pc s.d
   unfold dayP
   refine PC.of_va (T := tb0) eqs_ok tb_ok rfl mixed Try.func18 rfl rfl (Nat.le_of_ble_eq_true rfl) ?_; intro Γ C WK LP fin h0 hW hC hB hR hLP hfin
   (try (conv => whnf)); (repeat ((first | refine qT ?_ | refine qF ?_ | refine qO ?_ | (with_reducible intro z hz); (first | (replace hz := hz (by omega); subst hz) | subst hz) | (refine CallV.mk _ (hC _ _ _ (PCw.of hX)) (fun js hjs => ?_); subst hjs)); (try (conv => whnf))))
   exact hfin _ (ILes.refl _)
 rw [if_neg h1]
 by_cases h3 : s.k = 3
 · rw [if_pos h3]
   cases hq : evD s.e l with
   | some t =>
     rw [hq] at hE
     have hX := from_pc t
     unfold dayP
     refine PC.of_va (T := tb0) eqs_ok tb_ok rfl mixed Try.func18 rfl rfl (Nat.le_of_ble_eq_true rfl) ?_; intro Γ C WK LP fin h0 hW hC hB hR hLP hfin
     (try (conv => whnf)); (repeat ((first | refine qT ?_ | refine qF ?_ | refine qO ?_ | (with_reducible intro z hz); (first | (replace hz := hz (by omega); subst hz) | subst hz) | (refine CallV.mk _ (hC _ _ _ (PCw.of hE)) (fun js hjs => ?_); subst hjs) | (refine CallV.mk _ (hC _ _ _ (PCw.of hX)) (fun js hjs => ?_); subst hjs)); (try (conv => whnf))))
     exact hfin _ (ILes.refl _)
   | none =>
     rw [hq] at hE
     rw [day_none]
     refine PC.of_va (T := tb0) eqs_ok tb_ok rfl mixed Try.func18 rfl rfl (Nat.le_of_ble_eq_true rfl) ?_; intro Γ C WK LP fin h0 hW hC hB hR hLP hfin
     (try (conv => whnf)); (repeat ((first | refine qT ?_ | refine qF ?_ | refine qO ?_ | (with_reducible intro z hz); (first | (replace hz := hz (by omega); subst hz) | subst hz) | (refine CallV.mk _ (hC _ _ _ (PCw.of hE)) (fun js hjs => ?_); subst hjs)); (try (conv => whnf))))
     refine Imms.mk [] rfl ?_
     exact hfin _ (ILes.refl _)
 · rw [if_neg h3, day_none]
   refine PC.of_va (T := tb0) eqs_ok tb_ok rfl mixed Try.func18 rfl rfl (Nat.le_of_ble_eq_true rfl) ?_; intro Γ C WK LP fin h0 hW hC hB hR hLP hfin
   (try (conv => whnf)); (repeat ((first | refine qT ?_ | refine qF ?_ | refine qO ?_ | (with_reducible intro z hz); (first | (replace hz := hz (by omega); subst hz) | subst hz)); (try (conv => whnf))))
   refine Imms.mk [] rfl ?_
   exact hfin _ (ILes.refl _)
theorem st_eq (a : St) : eqC [.int .i64 a.k, .int .i64 a.d, .str a.e] [.int .i64 a.k, .int .i64 a.d, .str a.e] = true := by simp [eqC]
theorem days1 (o : Option Int) : (canon (dayP o)).length ≤ 1000000000 := by
 have := (dayP_has o).2
 omega
theorem same_self (L : List Sp) (hl : L.length ≤ 1000000000) : PC Try.prog env0 16 [.sl 2 (L.map spv), .sl 2 (L.map spv)] [.bool true] := by
 have h := same_pc L L hl hl
 rwa [decide_eq_true rfl] at h
theorem lawInitial (a b : St) (name : Str) (l : List En) (hl : l.length ≤ 9223372036854775807) (hf : ∀ x ∈ l, x.it.ev.size ≤ 9223372036854775807 ∧ x.it.st.e.size ≤ 9223372036854775807) (hn : name.size ≤ 9223372036854775807) (ha : a.e.size ≤ 9223372036854775807) (hb : b.e.size ≤ 9223372036854775807) :
   PC Try.prog env0 3 [stv a, stv b, .str name, .sl 28 (l.map env1)] [.bool true] := by
 have hA := awake_pc
 have hF := few_pc l hl hf
 cases hfe : fewE l with
 | false =>
   rw [hfe] at hF
   unfold stv
   refine PC.of_va (T := tb0) eqs_ok tb_ok rfl mixed Try.func3 rfl rfl (Nat.le_of_ble_eq_true rfl) ?_; intro Γ C WK LP fin h0 hW hC hB hR hLP hfin
   (try (conv => whnf)); (repeat ((first | refine qT ?_ | refine qF ?_ | refine qO ?_ | (with_reducible intro z hz); (first | (replace hz := hz (by omega); subst hz) | subst hz) | (refine CallV.mk _ (hC _ _ _ (PCw.of hA)) (fun js hjs => ?_); subst hjs) | (refine CallV.mk _ (hC _ _ _ (PCw.of hF)) (fun js hjs => ?_); subst hjs)); (try (conv => whnf))))
   exact hfin _ (ILes.refl _)
 | true =>
   rw [hfe] at hF
   have h40 : l.length ≤ 40 := by unfold fewE at hfe; simp at hfe; exact hfe.2
   by_cases h1 : name.size ≤ 100
   rotate_left
   · unfold stv
     refine PC.of_va (T := tb0) eqs_ok tb_ok rfl mixed Try.func3 rfl rfl (Nat.le_of_ble_eq_true rfl) ?_; intro Γ C WK LP fin h0 hW hC hB hR hLP hfin
     (try (conv => whnf)); (repeat ((first | refine qT ?_ | refine qF ?_ | refine qO ?_ | (with_reducible intro z hz); (first | (replace hz := hz (by omega); subst hz) | subst hz) | (refine CallV.mk _ (hC _ _ _ (PCw.of hA)) (fun js hjs => ?_); subst hjs) | (refine CallV.mk _ (hC _ _ _ (PCw.of hF)) (fun js hjs => ?_); subst hjs)); (try (conv => whnf))))
     exact hfin _ (ILes.refl _)
   by_cases h2 : a.e.size ≤ 100
   rotate_left
   · unfold stv
     refine PC.of_va (T := tb0) eqs_ok tb_ok rfl mixed Try.func3 rfl rfl (Nat.le_of_ble_eq_true rfl) ?_; intro Γ C WK LP fin h0 hW hC hB hR hLP hfin
     (try (conv => whnf)); (repeat ((first | refine qT ?_ | refine qF ?_ | refine qO ?_ | (with_reducible intro z hz); (first | (replace hz := hz (by omega); subst hz) | subst hz) | (refine CallV.mk _ (hC _ _ _ (PCw.of hA)) (fun js hjs => ?_); subst hjs) | (refine CallV.mk _ (hC _ _ _ (PCw.of hF)) (fun js hjs => ?_); subst hjs)); (try (conv => whnf))))
     exact hfin _ (ILes.refl _)
   by_cases h3 : b.e.size ≤ 100
   rotate_left
   · unfold stv
     refine PC.of_va (T := tb0) eqs_ok tb_ok rfl mixed Try.func3 rfl rfl (Nat.le_of_ble_eq_true rfl) ?_; intro Γ C WK LP fin h0 hW hC hB hR hLP hfin
     (try (conv => whnf)); (repeat ((first | refine qT ?_ | refine qF ?_ | refine qO ?_ | (with_reducible intro z hz); (first | (replace hz := hz (by omega); subst hz) | subst hz) | (refine CallV.mk _ (hC _ _ _ (PCw.of hA)) (fun js hjs => ?_); subst hjs) | (refine CallV.mk _ (hC _ _ _ (PCw.of hF)) (fun js hjs => ?_); subst hjs)); (try (conv => whnf))))
     exact hfin _ (ILes.refl _)
   have hE1 := eventday_pc name l (by omega)
   have hE2 := event_pc name l (by omega)
   have hX := effective_pc a b
   have hRu := rule_pc a b
   have hI1 := initial_pc (effS a b) l (by omega)
   have hB1 := begins_pc (effS a b) l (by omega)
   have hI2 := initial_pc a l (by omega)
   have hB2 := begins_pc a l (by omega)
   have hS1 := same_self _ (days1 (stD (effS a b) l))
   have hS2 := same_self _ (days1 (stD a l))
   have hi := st_eq (effS a b)
   generalize effS a b = r at *
   generalize canon (dayP (stD r l)) = D1 at *
   generalize canon (dayP (stD a l)) = D2 at *
   generalize (evD name l).isSome = ok at *
   generalize (evD name l).getD 0 = dd at *
   unfold stv at *
   refine PC.of_va (T := tb0) eqs_ok tb_ok rfl mixed Try.func3 rfl rfl (Nat.le_of_ble_eq_true rfl) ?_; intro Γ C WK LP fin h0 hW hC hB hR hLP hfin
   (try (conv => whnf)); (repeat ((first | refine qT ?_ | refine qF ?_ | refine qO ?_ | (with_reducible intro z hz); (first | (replace hz := hz (by omega); subst hz) | subst hz) | (refine CallV.mk _ (hC _ _ _ (PCw.of hA)) (fun js hjs => ?_); subst hjs) | (refine CallV.mk _ (hC _ _ _ (PCw.of hF)) (fun js hjs => ?_); subst hjs)); (try (conv => whnf))))
   refine CallV.mk _ (hC _ _ _ (PCw.of (hE1))) (fun js hjs => ?_); subst hjs
   (try (conv => whnf)); (repeat ((first | refine qT ?_ | refine qF ?_ | refine qO ?_ | (with_reducible intro z hz); (first | (replace hz := hz (by omega); subst hz) | subst hz) | (refine CallV.mk _ (hC _ _ _ (PCw.of hE2)) (fun js hjs => ?_); subst hjs) | (refine CallV.mk _ (hC _ _ _ (PCw.of hX)) (fun js hjs => ?_); subst hjs) | (refine CallV.mk _ (hC _ _ _ (PCw.of hRu)) (fun js hjs => ?_); subst hjs) | (refine CallV.mk _ (hC _ _ _ (PCw.of hI1)) (fun js hjs => ?_); subst hjs) | (refine CallV.mk _ (hC _ _ _ (PCw.of hB1)) (fun js hjs => ?_); subst hjs) | (refine CallV.mk _ (hC _ _ _ (PCw.of hS1)) (fun js hjs => ?_); subst hjs) | (refine CallV.mk _ (hC _ _ _ (PCw.of hI2)) (fun js hjs => ?_); subst hjs) | (refine CallV.mk _ (hC _ _ _ (PCw.of hB2)) (fun js hjs => ?_); subst hjs) | (refine CallV.mk _ (hC _ _ _ (PCw.of hS2)) (fun js hjs => ?_); subst hjs)); (try (conv => whnf))))
   exact hfin _ (ILes.refl _)
theorem initialL (a : St) (ha : FitS a) (b : St) (hb : FitS b) (name : Str) (hn : name.size ≤ maxLen) (l : List En) (w : l.length ≤ 9223372036854775807 ∧ ∀ x ∈ l, FitI x.it) : PC Try.prog env0 3 [stv a, stv b, .str name, .sl 28 (l.map env1)] [.bool true] := by
 unfold FitS maxLen at *
 refine lawInitial a b name l w.1 (fun x hx => ?_) (by omega) (by omega) (by omega)
 obtain ⟨h1, h2⟩ := w.2 x hx
 unfold FitS maxLen at *
 omega
end Go.Proofs.Ytmgjpmjmondplaa.Pe
