/-
  The law of the last order.
-/
import Derived.Test.YtmgjpmjmondplaaWAm
namespace Go.Proofs.Ytmgjpmjmondplaa.Pe
open Go Go.Pv Go.RowKit
set_option linter.unusedSimpArgs false
open Spans Rm
set_option maxRecDepth 10000
set_option maxHeartbeats 32000000
theorem ord_refers (kd act item i day : Int) (hk : kd = 7 ∨ kd = 8 ∨ kd = 9) (hi : i = item ∨ i = -1) : refers (ordE kd act i day).it act item = true := by
 unfold refers ordE
 rw [if_pos hk]
 rcases hi with rfl | rfl <;> simp
theorem force_ord {a : St} {e : En} {l : List En} {x : En} (h0 : 0 ≤ e.it.kind) (h6 : e.it.kind ≤ 6) (hk : ¬ x.it.kind = 10) : forceL a e (l ++ [x]) = canon (stepD e (daysP (dayP (stD (effS a e.it.st) l)) e l) x) := by
 rw [force_in h0 h6, days_snoc, stD_snoc _ _ hk]
theorem last_con {a : St} {e : En} {l : List En} (kd i day o : Int) (h0 : 0 ≤ e.it.kind) (h6 : e.it.kind ≤ 6) (hk : kd = 7 ∨ kd = 8 ∨ kd = 9) (hi : i = e.item ∨ i = -1) :
   conB (forceL a e (l ++ [ordE kd e.act i day])) o = if o < day then conB (forceL a e l) o else decide (¬ kd = 8) && decide (0 ≤ o ∧ o ≤ 1048576) := by
 rw [force_ord (x := ordE kd e.act i day) h0 h6 (by show ¬ kd = 10; omega), force_in h0 h6]
 have hP := days_has (e := e) (l := l) (dayP_has (stD (effS a e.it.st) l))
 generalize daysP (dayP (stD (effS a e.it.st) l)) e l = P at *
 have hr := ord_refers kd e.act e.item i day hk hi
 unfold conB
 by_cases ho : 0 ≤ o ∧ o ≤ 1048576
 · rw [decide_eq_true ho, Bool.true_and, Bool.true_and, Bool.and_true]
   by_cases h8 : kd = 8
   · rw [step_trunc hr h8, (hP.trunc _).val o ho.1 ho.2, until_val o _ ho.1, hP.val o ho.1 ho.2]
     show (P o && decide (o < day)) = _
     by_cases hd : o < day
     · simp [hd]
     · simp [hd, h8]
   · have h79 : kd = 7 ∨ kd = 9 := by omega
     rw [step_ext hr h79, (hP.ext _).val o ho.1 ho.2, since_val o _ ho.2, hP.val o ho.1 ho.2]
     show (P o || !decide (o < day)) = _
     by_cases hd : o < day
     · simp [hd]
     · simp [hd, h8]
 · rw [decide_eq_false ho, Bool.false_and, Bool.false_and, Bool.and_false]
   simp
theorem lawLastOrder (a : St) (e : En) (l : List En) (kind : Int) (hk0 : 0 ≤ kind) (_ : kind ≤ 255) (day other : Int) (ha : a.e.size ≤ 9223372036854775807) (h : InE e l) : PC Try.prog env0 6 [stv a, env1 e, .sl 28 (l.map env1), .int .u8 kind, .int .i64 day, .int .i64 other] [.bool true] := by
 have hA := awake_pc
 have hF := few2_pc e l h
 have hml : (l.map env1).length = l.length := List.length_map _
 have hb := h.1
 rw [env_eq e]
 unfold stv
 cases hfe : fewE (e :: l) with
 | false =>
   rw [hfe] at hF
   refine PC.of_va (T := tb0) eqs_ok tb_ok rfl mixed Try.func6 rfl rfl (Nat.le_of_ble_eq_true rfl) ?_; intro Γ C WK LP fin h0 hW hC hB hR hLP hfin
   (try (conv => whnf)); (repeat ((first | refine qT ?_ | refine qF ?_ | refine qO ?_ | (with_reducible intro z hz); (first | (replace hz := hz (by omega); subst hz) | subst hz) | (refine CallV.mk _ (hC _ _ _ (PCw.of hA)) (fun js hjs => ?_); subst hjs)); (try (conv => whnf))))
   refine Imms.mk ((e :: l).map env1) rfl ?_
   (try (conv => whnf)); (repeat ((first | refine qT ?_ | refine qF ?_ | refine qO ?_ | (with_reducible intro z hz); (first | (replace hz := hz (by omega); subst hz) | subst hz) | (refine CallV.mk _ (hC _ _ _ (PCw.of hF)) (fun js hjs => ?_); subst hjs) | (refine CallV.mk _ (hC _ _ _ (PCw.of hA)) (fun js hjs => ?_); subst hjs)); (try (conv => whnf))))
   exact hfin _ (ILes.refl _)
 | true =>
   have hle := few_le hfe
   rw [hfe] at hF
   by_cases h1 : a.e.size ≤ 100
   rotate_left
   · refine PC.of_va (T := tb0) eqs_ok tb_ok rfl mixed Try.func6 rfl rfl (Nat.le_of_ble_eq_true rfl) ?_; intro Γ C WK LP fin h0 hW hC hB hR hLP hfin
     (try (conv => whnf)); (repeat ((first | refine qT ?_ | refine qF ?_ | refine qO ?_ | (with_reducible intro z hz); (first | (replace hz := hz (by omega); subst hz) | subst hz) | (refine CallV.mk _ (hC _ _ _ (PCw.of hA)) (fun js hjs => ?_); subst hjs)); (try (conv => whnf))))
     refine Imms.mk ((e :: l).map env1) rfl ?_
     (try (conv => whnf)); (repeat ((first | refine qT ?_ | refine qF ?_ | refine qO ?_ | (with_reducible intro z hz); (first | (replace hz := hz (by omega); subst hz) | subst hz) | (refine CallV.mk _ (hC _ _ _ (PCw.of hF)) (fun js hjs => ?_); subst hjs) | (refine CallV.mk _ (hC _ _ _ (PCw.of hA)) (fun js hjs => ?_); subst hjs)); (try (conv => whnf))))
     exact hfin _ (ILes.refl _)
   by_cases k0 : 0 ≤ e.it.kind
   rotate_left
   · refine PC.of_va (T := tb0) eqs_ok tb_ok rfl mixed Try.func6 rfl rfl (Nat.le_of_ble_eq_true rfl) ?_; intro Γ C WK LP fin h0 hW hC hB hR hLP hfin
     (try (conv => whnf)); (repeat ((first | refine qT ?_ | refine qF ?_ | refine qO ?_ | (with_reducible intro z hz); (first | (replace hz := hz (by omega); subst hz) | subst hz) | (refine CallV.mk _ (hC _ _ _ (PCw.of hA)) (fun js hjs => ?_); subst hjs)); (try (conv => whnf))))
     refine Imms.mk ((e :: l).map env1) rfl ?_
     (try (conv => whnf)); (repeat ((first | refine qT ?_ | refine qF ?_ | refine qO ?_ | (with_reducible intro z hz); (first | (replace hz := hz (by omega); subst hz) | subst hz) | (refine CallV.mk _ (hC _ _ _ (PCw.of hF)) (fun js hjs => ?_); subst hjs) | (refine CallV.mk _ (hC _ _ _ (PCw.of hA)) (fun js hjs => ?_); subst hjs)); (try (conv => whnf))))
     exact hfin _ (ILes.refl _)
   by_cases k6 : e.it.kind ≤ 6
   rotate_left
   · refine PC.of_va (T := tb0) eqs_ok tb_ok rfl mixed Try.func6 rfl rfl (Nat.le_of_ble_eq_true rfl) ?_; intro Γ C WK LP fin h0 hW hC hB hR hLP hfin
     (try (conv => whnf)); (repeat ((first | refine qT ?_ | refine qF ?_ | refine qO ?_ | (with_reducible intro z hz); (first | (replace hz := hz (by omega); subst hz) | subst hz) | (refine CallV.mk _ (hC _ _ _ (PCw.of hA)) (fun js hjs => ?_); subst hjs)); (try (conv => whnf))))
     refine Imms.mk ((e :: l).map env1) rfl ?_
     (try (conv => whnf)); (repeat ((first | refine qT ?_ | refine qF ?_ | refine qO ?_ | (with_reducible intro z hz); (first | (replace hz := hz (by omega); subst hz) | subst hz) | (refine CallV.mk _ (hC _ _ _ (PCw.of hF)) (fun js hjs => ?_); subst hjs) | (refine CallV.mk _ (hC _ _ _ (PCw.of hA)) (fun js hjs => ?_); subst hjs)); (try (conv => whnf))))
     exact hfin _ (ILes.refl _)
   have hI := inforce_pc a e l (by omega)
   have hcl := force_len a e l
   have hC1 := contains_pc (forceL a e l) other (by omega)
   have key : ∀ kd i : Int, (kd = 7 ∨ kd = 8 ∨ kd = 9) → (i = e.item ∨ i = -1) → ∃ (D2 : List Sp) (c : Bool), PC Try.prog env0 21 [stv a, env1 e, .sl 28 ((l ++ [ordE kd e.act i day]).map env1)] [.sl 2 (D2.map spv)] ∧ PC Try.prog env0 24 [.sl 2 (D2.map spv), .int .i64 other] [.bool c] ∧ (other < day → c = conB (forceL a e l) other) ∧ (¬ other < day → c = (decide (¬ kd = 8) && decide (0 ≤ other ∧ other ≤ 1048576))) := by
     intro kd i hk hi
     have hl1 : (l ++ [ordE kd e.act i day]).length = l.length + 1 := by simp
     have hcl2 := force_len a e (l ++ [ordE kd e.act i day])
     refine ⟨_, _, inforce_pc a e (l ++ [ordE kd e.act i day]) (by omega), contains_pc _ other (by omega), fun h => ?_, fun h => ?_⟩
     · rw [last_con kd i day other k0 k6 hk hi, if_pos h]
     · rw [last_con kd i day other k0 k6 hk hi, if_neg h]
   generalize conB (forceL a e l) other = c1 at *
   generalize forceL a e l = D at *
   rw [env_eq e] at hI key
   unfold stv at hI key
   by_cases t00 : Int.tmod kind 3 = 0 ∧ Int.tmod kind 2 = 0
   · obtain ⟨t3, t2⟩ := t00
     obtain ⟨D2, c, hI2, hC2, hv1, hv2⟩ := key 7 (-1) (by omega) (by exact Or.inr rfl)
     by_cases hd : other < day
     · have hv := hv1 hd
       subst hv
       refine PC.of_va (T := tb0) eqs_ok tb_ok rfl mixed Try.func6 rfl rfl (Nat.le_of_ble_eq_true rfl) ?_; intro Γ C WK LP fin h0 hW hC hB hR hLP hfin
       (try (conv => whnf)); (repeat ((first | refine qT ?_ | refine qF ?_ | refine qO ?_ | (with_reducible intro z hz); (first | (replace hz := hz (by omega); subst hz) | subst hz) | (refine CallV.mk _ (hC _ _ _ (PCw.of hA)) (fun js hjs => ?_); subst hjs)); (try (conv => whnf))))
       refine Imms.mk ((e :: l).map env1) rfl ?_
       (try (conv => whnf)); (repeat ((first | refine qT ?_ | refine qF ?_ | refine qO ?_ | (with_reducible intro z hz); (first | (replace hz := hz (by omega); subst hz) | subst hz) | (refine CallV.mk _ (hC _ _ _ (PCw.of hF)) (fun js hjs => ?_); subst hjs) | (refine CallV.mk _ (hC _ _ _ (PCw.of hI)) (fun js hjs => ?_); subst hjs)); (try (conv => whnf))))
       refine Pos.mk 0 (by omega) (by decide) ?_
       (try (conv => whnf)); (repeat ((first | refine qT ?_ | refine qF ?_ | refine qO ?_ | (with_reducible intro z hz); (first | (replace hz := hz (by omega); subst hz) | subst hz)); (try (conv => whnf))))
       refine At.mk (.imm (.int .i64 7)) rfl ?_
       (try (conv => whnf)); (repeat ((first | refine qT ?_ | refine qF ?_ | refine qO ?_ | (with_reducible intro z hz); (first | (replace hz := hz (by omega); subst hz) | subst hz) | (refine CallV.mk _ (hC _ _ _ (PCw.of hI)) (fun js hjs => ?_); subst hjs)); (try (conv => whnf))))
       refine Imms.mk ((l ++ [ordE 7 e.act (-1) day]).map env1) (by simp [ordE]; rfl) ?_
       (try (conv => whnf)); (repeat ((first | refine qT ?_ | refine qF ?_ | refine qO ?_ | (with_reducible intro z hz); (first | (replace hz := hz (by omega); subst hz) | subst hz) | (refine CallV.mk _ (hC _ _ _ (PCw.of hI2)) (fun js hjs => ?_); subst hjs) | (refine CallV.mk _ (hC _ _ _ (PCw.of hC2)) (fun js hjs => ?_); subst hjs) | (refine CallV.mk _ (hC _ _ _ (PCw.of hC1)) (fun js hjs => ?_); subst hjs)); (try (conv => whnf))))
       exact hfin _ (ILes.refl _)
     have hv := hv2 hd
     rw [decide_eq_true (by decide), Bool.true_and] at hv
     clear hv1 hv2
     by_cases o0 : 0 ≤ other
     rotate_left
     · rw [decide_eq_false (fun h => o0 h.1)] at hv
       subst hv
       refine PC.of_va (T := tb0) eqs_ok tb_ok rfl mixed Try.func6 rfl rfl (Nat.le_of_ble_eq_true rfl) ?_; intro Γ C WK LP fin h0 hW hC hB hR hLP hfin
       (try (conv => whnf)); (repeat ((first | refine qT ?_ | refine qF ?_ | refine qO ?_ | (with_reducible intro z hz); (first | (replace hz := hz (by omega); subst hz) | subst hz) | (refine CallV.mk _ (hC _ _ _ (PCw.of hA)) (fun js hjs => ?_); subst hjs)); (try (conv => whnf))))
       refine Imms.mk ((e :: l).map env1) rfl ?_
       (try (conv => whnf)); (repeat ((first | refine qT ?_ | refine qF ?_ | refine qO ?_ | (with_reducible intro z hz); (first | (replace hz := hz (by omega); subst hz) | subst hz) | (refine CallV.mk _ (hC _ _ _ (PCw.of hF)) (fun js hjs => ?_); subst hjs) | (refine CallV.mk _ (hC _ _ _ (PCw.of hI)) (fun js hjs => ?_); subst hjs)); (try (conv => whnf))))
       refine Pos.mk 0 (by omega) (by decide) ?_
       (try (conv => whnf)); (repeat ((first | refine qT ?_ | refine qF ?_ | refine qO ?_ | (with_reducible intro z hz); (first | (replace hz := hz (by omega); subst hz) | subst hz)); (try (conv => whnf))))
       refine At.mk (.imm (.int .i64 7)) rfl ?_
       (try (conv => whnf)); (repeat ((first | refine qT ?_ | refine qF ?_ | refine qO ?_ | (with_reducible intro z hz); (first | (replace hz := hz (by omega); subst hz) | subst hz) | (refine CallV.mk _ (hC _ _ _ (PCw.of hI)) (fun js hjs => ?_); subst hjs)); (try (conv => whnf))))
       refine Imms.mk ((l ++ [ordE 7 e.act (-1) day]).map env1) (by simp [ordE]; rfl) ?_
       (try (conv => whnf)); (repeat ((first | refine qT ?_ | refine qF ?_ | refine qO ?_ | (with_reducible intro z hz); (first | (replace hz := hz (by omega); subst hz) | subst hz) | (refine CallV.mk _ (hC _ _ _ (PCw.of hI2)) (fun js hjs => ?_); subst hjs) | (refine CallV.mk _ (hC _ _ _ (PCw.of hC2)) (fun js hjs => ?_); subst hjs) | (refine CallV.mk _ (hC _ _ _ (PCw.of hC1)) (fun js hjs => ?_); subst hjs)); (try (conv => whnf))))
       exact hfin _ (ILes.refl _)
     by_cases o1 : other ≤ 1048576
     · rw [decide_eq_true ⟨o0, o1⟩] at hv
       subst hv
       refine PC.of_va (T := tb0) eqs_ok tb_ok rfl mixed Try.func6 rfl rfl (Nat.le_of_ble_eq_true rfl) ?_; intro Γ C WK LP fin h0 hW hC hB hR hLP hfin
       (try (conv => whnf)); (repeat ((first | refine qT ?_ | refine qF ?_ | refine qO ?_ | (with_reducible intro z hz); (first | (replace hz := hz (by omega); subst hz) | subst hz) | (refine CallV.mk _ (hC _ _ _ (PCw.of hA)) (fun js hjs => ?_); subst hjs)); (try (conv => whnf))))
       refine Imms.mk ((e :: l).map env1) rfl ?_
       (try (conv => whnf)); (repeat ((first | refine qT ?_ | refine qF ?_ | refine qO ?_ | (with_reducible intro z hz); (first | (replace hz := hz (by omega); subst hz) | subst hz) | (refine CallV.mk _ (hC _ _ _ (PCw.of hF)) (fun js hjs => ?_); subst hjs) | (refine CallV.mk _ (hC _ _ _ (PCw.of hI)) (fun js hjs => ?_); subst hjs)); (try (conv => whnf))))
       refine Pos.mk 0 (by omega) (by decide) ?_
       (try (conv => whnf)); (repeat ((first | refine qT ?_ | refine qF ?_ | refine qO ?_ | (with_reducible intro z hz); (first | (replace hz := hz (by omega); subst hz) | subst hz)); (try (conv => whnf))))
       refine At.mk (.imm (.int .i64 7)) rfl ?_
       (try (conv => whnf)); (repeat ((first | refine qT ?_ | refine qF ?_ | refine qO ?_ | (with_reducible intro z hz); (first | (replace hz := hz (by omega); subst hz) | subst hz) | (refine CallV.mk _ (hC _ _ _ (PCw.of hI)) (fun js hjs => ?_); subst hjs)); (try (conv => whnf))))
       refine Imms.mk ((l ++ [ordE 7 e.act (-1) day]).map env1) (by simp [ordE]; rfl) ?_
       (try (conv => whnf)); (repeat ((first | refine qT ?_ | refine qF ?_ | refine qO ?_ | (with_reducible intro z hz); (first | (replace hz := hz (by omega); subst hz) | subst hz) | (refine CallV.mk _ (hC _ _ _ (PCw.of hI2)) (fun js hjs => ?_); subst hjs) | (refine CallV.mk _ (hC _ _ _ (PCw.of hC2)) (fun js hjs => ?_); subst hjs) | (refine CallV.mk _ (hC _ _ _ (PCw.of hC1)) (fun js hjs => ?_); subst hjs)); (try (conv => whnf))))
       exact hfin _ (ILes.refl _)
     · rw [decide_eq_false (fun h => o1 h.2)] at hv
       subst hv
       refine PC.of_va (T := tb0) eqs_ok tb_ok rfl mixed Try.func6 rfl rfl (Nat.le_of_ble_eq_true rfl) ?_; intro Γ C WK LP fin h0 hW hC hB hR hLP hfin
       (try (conv => whnf)); (repeat ((first | refine qT ?_ | refine qF ?_ | refine qO ?_ | (with_reducible intro z hz); (first | (replace hz := hz (by omega); subst hz) | subst hz) | (refine CallV.mk _ (hC _ _ _ (PCw.of hA)) (fun js hjs => ?_); subst hjs)); (try (conv => whnf))))
       refine Imms.mk ((e :: l).map env1) rfl ?_
       (try (conv => whnf)); (repeat ((first | refine qT ?_ | refine qF ?_ | refine qO ?_ | (with_reducible intro z hz); (first | (replace hz := hz (by omega); subst hz) | subst hz) | (refine CallV.mk _ (hC _ _ _ (PCw.of hF)) (fun js hjs => ?_); subst hjs) | (refine CallV.mk _ (hC _ _ _ (PCw.of hI)) (fun js hjs => ?_); subst hjs)); (try (conv => whnf))))
       refine Pos.mk 0 (by omega) (by decide) ?_
       (try (conv => whnf)); (repeat ((first | refine qT ?_ | refine qF ?_ | refine qO ?_ | (with_reducible intro z hz); (first | (replace hz := hz (by omega); subst hz) | subst hz)); (try (conv => whnf))))
       refine At.mk (.imm (.int .i64 7)) rfl ?_
       (try (conv => whnf)); (repeat ((first | refine qT ?_ | refine qF ?_ | refine qO ?_ | (with_reducible intro z hz); (first | (replace hz := hz (by omega); subst hz) | subst hz) | (refine CallV.mk _ (hC _ _ _ (PCw.of hI)) (fun js hjs => ?_); subst hjs)); (try (conv => whnf))))
       refine Imms.mk ((l ++ [ordE 7 e.act (-1) day]).map env1) (by simp [ordE]; rfl) ?_
       (try (conv => whnf)); (repeat ((first | refine qT ?_ | refine qF ?_ | refine qO ?_ | (with_reducible intro z hz); (first | (replace hz := hz (by omega); subst hz) | subst hz) | (refine CallV.mk _ (hC _ _ _ (PCw.of hI2)) (fun js hjs => ?_); subst hjs) | (refine CallV.mk _ (hC _ _ _ (PCw.of hC2)) (fun js hjs => ?_); subst hjs) | (refine CallV.mk _ (hC _ _ _ (PCw.of hC1)) (fun js hjs => ?_); subst hjs)); (try (conv => whnf))))
       exact hfin _ (ILes.refl _)
   by_cases t01 : Int.tmod kind 3 = 0 ∧ Int.tmod kind 2 = 1
   · obtain ⟨t3, t2⟩ := t01
     obtain ⟨D2, c, hI2, hC2, hv1, hv2⟩ := key 7 e.item (by omega) (by exact Or.inl rfl)
     by_cases hd : other < day
     · have hv := hv1 hd
       subst hv
       refine PC.of_va (T := tb0) eqs_ok tb_ok rfl mixed Try.func6 rfl rfl (Nat.le_of_ble_eq_true rfl) ?_; intro Γ C WK LP fin h0 hW hC hB hR hLP hfin
       (try (conv => whnf)); (repeat ((first | refine qT ?_ | refine qF ?_ | refine qO ?_ | (with_reducible intro z hz); (first | (replace hz := hz (by omega); subst hz) | subst hz) | (refine CallV.mk _ (hC _ _ _ (PCw.of hA)) (fun js hjs => ?_); subst hjs)); (try (conv => whnf))))
       refine Imms.mk ((e :: l).map env1) rfl ?_
       (try (conv => whnf)); (repeat ((first | refine qT ?_ | refine qF ?_ | refine qO ?_ | (with_reducible intro z hz); (first | (replace hz := hz (by omega); subst hz) | subst hz) | (refine CallV.mk _ (hC _ _ _ (PCw.of hF)) (fun js hjs => ?_); subst hjs) | (refine CallV.mk _ (hC _ _ _ (PCw.of hI)) (fun js hjs => ?_); subst hjs)); (try (conv => whnf))))
       refine Pos.mk 0 (by omega) (by decide) ?_
       (try (conv => whnf)); (repeat ((first | refine qT ?_ | refine qF ?_ | refine qO ?_ | (with_reducible intro z hz); (first | (replace hz := hz (by omega); subst hz) | subst hz)); (try (conv => whnf))))
       refine At.mk (.imm (.int .i64 7)) rfl ?_
       (try (conv => whnf)); (repeat ((first | refine qT ?_ | refine qF ?_ | refine qO ?_ | (with_reducible intro z hz); (first | (replace hz := hz (by omega); subst hz) | subst hz) | (refine CallV.mk _ (hC _ _ _ (PCw.of hI)) (fun js hjs => ?_); subst hjs)); (try (conv => whnf))))
       refine Imms.mk ((l ++ [ordE 7 e.act e.item day]).map env1) (by simp [ordE]; rfl) ?_
       (try (conv => whnf)); (repeat ((first | refine qT ?_ | refine qF ?_ | refine qO ?_ | (with_reducible intro z hz); (first | (replace hz := hz (by omega); subst hz) | subst hz) | (refine CallV.mk _ (hC _ _ _ (PCw.of hI2)) (fun js hjs => ?_); subst hjs) | (refine CallV.mk _ (hC _ _ _ (PCw.of hC2)) (fun js hjs => ?_); subst hjs) | (refine CallV.mk _ (hC _ _ _ (PCw.of hC1)) (fun js hjs => ?_); subst hjs)); (try (conv => whnf))))
       exact hfin _ (ILes.refl _)
     have hv := hv2 hd
     rw [decide_eq_true (by decide), Bool.true_and] at hv
     clear hv1 hv2
     by_cases o0 : 0 ≤ other
     rotate_left
     · rw [decide_eq_false (fun h => o0 h.1)] at hv
       subst hv
       refine PC.of_va (T := tb0) eqs_ok tb_ok rfl mixed Try.func6 rfl rfl (Nat.le_of_ble_eq_true rfl) ?_; intro Γ C WK LP fin h0 hW hC hB hR hLP hfin
       (try (conv => whnf)); (repeat ((first | refine qT ?_ | refine qF ?_ | refine qO ?_ | (with_reducible intro z hz); (first | (replace hz := hz (by omega); subst hz) | subst hz) | (refine CallV.mk _ (hC _ _ _ (PCw.of hA)) (fun js hjs => ?_); subst hjs)); (try (conv => whnf))))
       refine Imms.mk ((e :: l).map env1) rfl ?_
       (try (conv => whnf)); (repeat ((first | refine qT ?_ | refine qF ?_ | refine qO ?_ | (with_reducible intro z hz); (first | (replace hz := hz (by omega); subst hz) | subst hz) | (refine CallV.mk _ (hC _ _ _ (PCw.of hF)) (fun js hjs => ?_); subst hjs) | (refine CallV.mk _ (hC _ _ _ (PCw.of hI)) (fun js hjs => ?_); subst hjs)); (try (conv => whnf))))
       refine Pos.mk 0 (by omega) (by decide) ?_
       (try (conv => whnf)); (repeat ((first | refine qT ?_ | refine qF ?_ | refine qO ?_ | (with_reducible intro z hz); (first | (replace hz := hz (by omega); subst hz) | subst hz)); (try (conv => whnf))))
       refine At.mk (.imm (.int .i64 7)) rfl ?_
       (try (conv => whnf)); (repeat ((first | refine qT ?_ | refine qF ?_ | refine qO ?_ | (with_reducible intro z hz); (first | (replace hz := hz (by omega); subst hz) | subst hz) | (refine CallV.mk _ (hC _ _ _ (PCw.of hI)) (fun js hjs => ?_); subst hjs)); (try (conv => whnf))))
       refine Imms.mk ((l ++ [ordE 7 e.act e.item day]).map env1) (by simp [ordE]; rfl) ?_
       (try (conv => whnf)); (repeat ((first | refine qT ?_ | refine qF ?_ | refine qO ?_ | (with_reducible intro z hz); (first | (replace hz := hz (by omega); subst hz) | subst hz) | (refine CallV.mk _ (hC _ _ _ (PCw.of hI2)) (fun js hjs => ?_); subst hjs) | (refine CallV.mk _ (hC _ _ _ (PCw.of hC2)) (fun js hjs => ?_); subst hjs) | (refine CallV.mk _ (hC _ _ _ (PCw.of hC1)) (fun js hjs => ?_); subst hjs)); (try (conv => whnf))))
       exact hfin _ (ILes.refl _)
     by_cases o1 : other ≤ 1048576
     · rw [decide_eq_true ⟨o0, o1⟩] at hv
       subst hv
       refine PC.of_va (T := tb0) eqs_ok tb_ok rfl mixed Try.func6 rfl rfl (Nat.le_of_ble_eq_true rfl) ?_; intro Γ C WK LP fin h0 hW hC hB hR hLP hfin
       (try (conv => whnf)); (repeat ((first | refine qT ?_ | refine qF ?_ | refine qO ?_ | (with_reducible intro z hz); (first | (replace hz := hz (by omega); subst hz) | subst hz) | (refine CallV.mk _ (hC _ _ _ (PCw.of hA)) (fun js hjs => ?_); subst hjs)); (try (conv => whnf))))
       refine Imms.mk ((e :: l).map env1) rfl ?_
       (try (conv => whnf)); (repeat ((first | refine qT ?_ | refine qF ?_ | refine qO ?_ | (with_reducible intro z hz); (first | (replace hz := hz (by omega); subst hz) | subst hz) | (refine CallV.mk _ (hC _ _ _ (PCw.of hF)) (fun js hjs => ?_); subst hjs) | (refine CallV.mk _ (hC _ _ _ (PCw.of hI)) (fun js hjs => ?_); subst hjs)); (try (conv => whnf))))
       refine Pos.mk 0 (by omega) (by decide) ?_
       (try (conv => whnf)); (repeat ((first | refine qT ?_ | refine qF ?_ | refine qO ?_ | (with_reducible intro z hz); (first | (replace hz := hz (by omega); subst hz) | subst hz)); (try (conv => whnf))))
       refine At.mk (.imm (.int .i64 7)) rfl ?_
       (try (conv => whnf)); (repeat ((first | refine qT ?_ | refine qF ?_ | refine qO ?_ | (with_reducible intro z hz); (first | (replace hz := hz (by omega); subst hz) | subst hz) | (refine CallV.mk _ (hC _ _ _ (PCw.of hI)) (fun js hjs => ?_); subst hjs)); (try (conv => whnf))))
       refine Imms.mk ((l ++ [ordE 7 e.act e.item day]).map env1) (by simp [ordE]; rfl) ?_
       (try (conv => whnf)); (repeat ((first | refine qT ?_ | refine qF ?_ | refine qO ?_ | (with_reducible intro z hz); (first | (replace hz := hz (by omega); subst hz) | subst hz) | (refine CallV.mk _ (hC _ _ _ (PCw.of hI2)) (fun js hjs => ?_); subst hjs) | (refine CallV.mk _ (hC _ _ _ (PCw.of hC2)) (fun js hjs => ?_); subst hjs) | (refine CallV.mk _ (hC _ _ _ (PCw.of hC1)) (fun js hjs => ?_); subst hjs)); (try (conv => whnf))))
       exact hfin _ (ILes.refl _)
     · rw [decide_eq_false (fun h => o1 h.2)] at hv
       subst hv
       refine PC.of_va (T := tb0) eqs_ok tb_ok rfl mixed Try.func6 rfl rfl (Nat.le_of_ble_eq_true rfl) ?_; intro Γ C WK LP fin h0 hW hC hB hR hLP hfin
       (try (conv => whnf)); (repeat ((first | refine qT ?_ | refine qF ?_ | refine qO ?_ | (with_reducible intro z hz); (first | (replace hz := hz (by omega); subst hz) | subst hz) | (refine CallV.mk _ (hC _ _ _ (PCw.of hA)) (fun js hjs => ?_); subst hjs)); (try (conv => whnf))))
       refine Imms.mk ((e :: l).map env1) rfl ?_
       (try (conv => whnf)); (repeat ((first | refine qT ?_ | refine qF ?_ | refine qO ?_ | (with_reducible intro z hz); (first | (replace hz := hz (by omega); subst hz) | subst hz) | (refine CallV.mk _ (hC _ _ _ (PCw.of hF)) (fun js hjs => ?_); subst hjs) | (refine CallV.mk _ (hC _ _ _ (PCw.of hI)) (fun js hjs => ?_); subst hjs)); (try (conv => whnf))))
       refine Pos.mk 0 (by omega) (by decide) ?_
       (try (conv => whnf)); (repeat ((first | refine qT ?_ | refine qF ?_ | refine qO ?_ | (with_reducible intro z hz); (first | (replace hz := hz (by omega); subst hz) | subst hz)); (try (conv => whnf))))
       refine At.mk (.imm (.int .i64 7)) rfl ?_
       (try (conv => whnf)); (repeat ((first | refine qT ?_ | refine qF ?_ | refine qO ?_ | (with_reducible intro z hz); (first | (replace hz := hz (by omega); subst hz) | subst hz) | (refine CallV.mk _ (hC _ _ _ (PCw.of hI)) (fun js hjs => ?_); subst hjs)); (try (conv => whnf))))
       refine Imms.mk ((l ++ [ordE 7 e.act e.item day]).map env1) (by simp [ordE]; rfl) ?_
       (try (conv => whnf)); (repeat ((first | refine qT ?_ | refine qF ?_ | refine qO ?_ | (with_reducible intro z hz); (first | (replace hz := hz (by omega); subst hz) | subst hz) | (refine CallV.mk _ (hC _ _ _ (PCw.of hI2)) (fun js hjs => ?_); subst hjs) | (refine CallV.mk _ (hC _ _ _ (PCw.of hC2)) (fun js hjs => ?_); subst hjs) | (refine CallV.mk _ (hC _ _ _ (PCw.of hC1)) (fun js hjs => ?_); subst hjs)); (try (conv => whnf))))
       exact hfin _ (ILes.refl _)
   by_cases t10 : Int.tmod kind 3 = 1 ∧ Int.tmod kind 2 = 0
   · obtain ⟨t3, t2⟩ := t10
     obtain ⟨D2, c, hI2, hC2, hv1, hv2⟩ := key 8 (-1) (by omega) (by exact Or.inr rfl)
     by_cases hd : other < day
     · have hv := hv1 hd
       subst hv
       refine PC.of_va (T := tb0) eqs_ok tb_ok rfl mixed Try.func6 rfl rfl (Nat.le_of_ble_eq_true rfl) ?_; intro Γ C WK LP fin h0 hW hC hB hR hLP hfin
       (try (conv => whnf)); (repeat ((first | refine qT ?_ | refine qF ?_ | refine qO ?_ | (with_reducible intro z hz); (first | (replace hz := hz (by omega); subst hz) | subst hz) | (refine CallV.mk _ (hC _ _ _ (PCw.of hA)) (fun js hjs => ?_); subst hjs)); (try (conv => whnf))))
       refine Imms.mk ((e :: l).map env1) rfl ?_
       (try (conv => whnf)); (repeat ((first | refine qT ?_ | refine qF ?_ | refine qO ?_ | (with_reducible intro z hz); (first | (replace hz := hz (by omega); subst hz) | subst hz) | (refine CallV.mk _ (hC _ _ _ (PCw.of hF)) (fun js hjs => ?_); subst hjs) | (refine CallV.mk _ (hC _ _ _ (PCw.of hI)) (fun js hjs => ?_); subst hjs)); (try (conv => whnf))))
       refine Pos.mk 1 (by omega) (by decide) ?_
       (try (conv => whnf)); (repeat ((first | refine qT ?_ | refine qF ?_ | refine qO ?_ | (with_reducible intro z hz); (first | (replace hz := hz (by omega); subst hz) | subst hz)); (try (conv => whnf))))
       refine At.mk (.imm (.int .i64 8)) rfl ?_
       (try (conv => whnf)); (repeat ((first | refine qT ?_ | refine qF ?_ | refine qO ?_ | (with_reducible intro z hz); (first | (replace hz := hz (by omega); subst hz) | subst hz) | (refine CallV.mk _ (hC _ _ _ (PCw.of hI)) (fun js hjs => ?_); subst hjs)); (try (conv => whnf))))
       refine Imms.mk ((l ++ [ordE 8 e.act (-1) day]).map env1) (by simp [ordE]; rfl) ?_
       (try (conv => whnf)); (repeat ((first | refine qT ?_ | refine qF ?_ | refine qO ?_ | (with_reducible intro z hz); (first | (replace hz := hz (by omega); subst hz) | subst hz) | (refine CallV.mk _ (hC _ _ _ (PCw.of hI2)) (fun js hjs => ?_); subst hjs) | (refine CallV.mk _ (hC _ _ _ (PCw.of hC2)) (fun js hjs => ?_); subst hjs) | (refine CallV.mk _ (hC _ _ _ (PCw.of hC1)) (fun js hjs => ?_); subst hjs)); (try (conv => whnf))))
       exact hfin _ (ILes.refl _)
     have hv := hv2 hd
     rw [decide_eq_false (by simp), Bool.false_and] at hv
     subst hv
     clear hv1 hv2
     refine PC.of_va (T := tb0) eqs_ok tb_ok rfl mixed Try.func6 rfl rfl (Nat.le_of_ble_eq_true rfl) ?_; intro Γ C WK LP fin h0 hW hC hB hR hLP hfin
     (try (conv => whnf)); (repeat ((first | refine qT ?_ | refine qF ?_ | refine qO ?_ | (with_reducible intro z hz); (first | (replace hz := hz (by omega); subst hz) | subst hz) | (refine CallV.mk _ (hC _ _ _ (PCw.of hA)) (fun js hjs => ?_); subst hjs)); (try (conv => whnf))))
     refine Imms.mk ((e :: l).map env1) rfl ?_
     (try (conv => whnf)); (repeat ((first | refine qT ?_ | refine qF ?_ | refine qO ?_ | (with_reducible intro z hz); (first | (replace hz := hz (by omega); subst hz) | subst hz) | (refine CallV.mk _ (hC _ _ _ (PCw.of hF)) (fun js hjs => ?_); subst hjs) | (refine CallV.mk _ (hC _ _ _ (PCw.of hI)) (fun js hjs => ?_); subst hjs)); (try (conv => whnf))))
     refine Pos.mk 1 (by omega) (by decide) ?_
     (try (conv => whnf)); (repeat ((first | refine qT ?_ | refine qF ?_ | refine qO ?_ | (with_reducible intro z hz); (first | (replace hz := hz (by omega); subst hz) | subst hz)); (try (conv => whnf))))
     refine At.mk (.imm (.int .i64 8)) rfl ?_
     (try (conv => whnf)); (repeat ((first | refine qT ?_ | refine qF ?_ | refine qO ?_ | (with_reducible intro z hz); (first | (replace hz := hz (by omega); subst hz) | subst hz) | (refine CallV.mk _ (hC _ _ _ (PCw.of hI)) (fun js hjs => ?_); subst hjs)); (try (conv => whnf))))
     refine Imms.mk ((l ++ [ordE 8 e.act (-1) day]).map env1) (by simp [ordE]; rfl) ?_
     (try (conv => whnf)); (repeat ((first | refine qT ?_ | refine qF ?_ | refine qO ?_ | (with_reducible intro z hz); (first | (replace hz := hz (by omega); subst hz) | subst hz) | (refine CallV.mk _ (hC _ _ _ (PCw.of hI2)) (fun js hjs => ?_); subst hjs) | (refine CallV.mk _ (hC _ _ _ (PCw.of hC2)) (fun js hjs => ?_); subst hjs) | (refine CallV.mk _ (hC _ _ _ (PCw.of hC1)) (fun js hjs => ?_); subst hjs)); (try (conv => whnf))))
     exact hfin _ (ILes.refl _)
   by_cases t11 : Int.tmod kind 3 = 1 ∧ Int.tmod kind 2 = 1
   · obtain ⟨t3, t2⟩ := t11
     obtain ⟨D2, c, hI2, hC2, hv1, hv2⟩ := key 8 e.item (by omega) (by exact Or.inl rfl)
     by_cases hd : other < day
     · have hv := hv1 hd
       subst hv
       refine PC.of_va (T := tb0) eqs_ok tb_ok rfl mixed Try.func6 rfl rfl (Nat.le_of_ble_eq_true rfl) ?_; intro Γ C WK LP fin h0 hW hC hB hR hLP hfin
       (try (conv => whnf)); (repeat ((first | refine qT ?_ | refine qF ?_ | refine qO ?_ | (with_reducible intro z hz); (first | (replace hz := hz (by omega); subst hz) | subst hz) | (refine CallV.mk _ (hC _ _ _ (PCw.of hA)) (fun js hjs => ?_); subst hjs)); (try (conv => whnf))))
       refine Imms.mk ((e :: l).map env1) rfl ?_
       (try (conv => whnf)); (repeat ((first | refine qT ?_ | refine qF ?_ | refine qO ?_ | (with_reducible intro z hz); (first | (replace hz := hz (by omega); subst hz) | subst hz) | (refine CallV.mk _ (hC _ _ _ (PCw.of hF)) (fun js hjs => ?_); subst hjs) | (refine CallV.mk _ (hC _ _ _ (PCw.of hI)) (fun js hjs => ?_); subst hjs)); (try (conv => whnf))))
       refine Pos.mk 1 (by omega) (by decide) ?_
       (try (conv => whnf)); (repeat ((first | refine qT ?_ | refine qF ?_ | refine qO ?_ | (with_reducible intro z hz); (first | (replace hz := hz (by omega); subst hz) | subst hz)); (try (conv => whnf))))
       refine At.mk (.imm (.int .i64 8)) rfl ?_
       (try (conv => whnf)); (repeat ((first | refine qT ?_ | refine qF ?_ | refine qO ?_ | (with_reducible intro z hz); (first | (replace hz := hz (by omega); subst hz) | subst hz) | (refine CallV.mk _ (hC _ _ _ (PCw.of hI)) (fun js hjs => ?_); subst hjs)); (try (conv => whnf))))
       refine Imms.mk ((l ++ [ordE 8 e.act e.item day]).map env1) (by simp [ordE]; rfl) ?_
       (try (conv => whnf)); (repeat ((first | refine qT ?_ | refine qF ?_ | refine qO ?_ | (with_reducible intro z hz); (first | (replace hz := hz (by omega); subst hz) | subst hz) | (refine CallV.mk _ (hC _ _ _ (PCw.of hI2)) (fun js hjs => ?_); subst hjs) | (refine CallV.mk _ (hC _ _ _ (PCw.of hC2)) (fun js hjs => ?_); subst hjs) | (refine CallV.mk _ (hC _ _ _ (PCw.of hC1)) (fun js hjs => ?_); subst hjs)); (try (conv => whnf))))
       exact hfin _ (ILes.refl _)
     have hv := hv2 hd
     rw [decide_eq_false (by simp), Bool.false_and] at hv
     subst hv
     clear hv1 hv2
     refine PC.of_va (T := tb0) eqs_ok tb_ok rfl mixed Try.func6 rfl rfl (Nat.le_of_ble_eq_true rfl) ?_; intro Γ C WK LP fin h0 hW hC hB hR hLP hfin
     (try (conv => whnf)); (repeat ((first | refine qT ?_ | refine qF ?_ | refine qO ?_ | (with_reducible intro z hz); (first | (replace hz := hz (by omega); subst hz) | subst hz) | (refine CallV.mk _ (hC _ _ _ (PCw.of hA)) (fun js hjs => ?_); subst hjs)); (try (conv => whnf))))
     refine Imms.mk ((e :: l).map env1) rfl ?_
     (try (conv => whnf)); (repeat ((first | refine qT ?_ | refine qF ?_ | refine qO ?_ | (with_reducible intro z hz); (first | (replace hz := hz (by omega); subst hz) | subst hz) | (refine CallV.mk _ (hC _ _ _ (PCw.of hF)) (fun js hjs => ?_); subst hjs) | (refine CallV.mk _ (hC _ _ _ (PCw.of hI)) (fun js hjs => ?_); subst hjs)); (try (conv => whnf))))
     refine Pos.mk 1 (by omega) (by decide) ?_
     (try (conv => whnf)); (repeat ((first | refine qT ?_ | refine qF ?_ | refine qO ?_ | (with_reducible intro z hz); (first | (replace hz := hz (by omega); subst hz) | subst hz)); (try (conv => whnf))))
     refine At.mk (.imm (.int .i64 8)) rfl ?_
     (try (conv => whnf)); (repeat ((first | refine qT ?_ | refine qF ?_ | refine qO ?_ | (with_reducible intro z hz); (first | (replace hz := hz (by omega); subst hz) | subst hz) | (refine CallV.mk _ (hC _ _ _ (PCw.of hI)) (fun js hjs => ?_); subst hjs)); (try (conv => whnf))))
     refine Imms.mk ((l ++ [ordE 8 e.act e.item day]).map env1) (by simp [ordE]; rfl) ?_
     (try (conv => whnf)); (repeat ((first | refine qT ?_ | refine qF ?_ | refine qO ?_ | (with_reducible intro z hz); (first | (replace hz := hz (by omega); subst hz) | subst hz) | (refine CallV.mk _ (hC _ _ _ (PCw.of hI2)) (fun js hjs => ?_); subst hjs) | (refine CallV.mk _ (hC _ _ _ (PCw.of hC2)) (fun js hjs => ?_); subst hjs) | (refine CallV.mk _ (hC _ _ _ (PCw.of hC1)) (fun js hjs => ?_); subst hjs)); (try (conv => whnf))))
     exact hfin _ (ILes.refl _)
   by_cases t20 : Int.tmod kind 3 = 2 ∧ Int.tmod kind 2 = 0
   · obtain ⟨t3, t2⟩ := t20
     obtain ⟨D2, c, hI2, hC2, hv1, hv2⟩ := key 9 (-1) (by omega) (by exact Or.inr rfl)
     by_cases hd : other < day
     · have hv := hv1 hd
       subst hv
       refine PC.of_va (T := tb0) eqs_ok tb_ok rfl mixed Try.func6 rfl rfl (Nat.le_of_ble_eq_true rfl) ?_; intro Γ C WK LP fin h0 hW hC hB hR hLP hfin
       (try (conv => whnf)); (repeat ((first | refine qT ?_ | refine qF ?_ | refine qO ?_ | (with_reducible intro z hz); (first | (replace hz := hz (by omega); subst hz) | subst hz) | (refine CallV.mk _ (hC _ _ _ (PCw.of hA)) (fun js hjs => ?_); subst hjs)); (try (conv => whnf))))
       refine Imms.mk ((e :: l).map env1) rfl ?_
       (try (conv => whnf)); (repeat ((first | refine qT ?_ | refine qF ?_ | refine qO ?_ | (with_reducible intro z hz); (first | (replace hz := hz (by omega); subst hz) | subst hz) | (refine CallV.mk _ (hC _ _ _ (PCw.of hF)) (fun js hjs => ?_); subst hjs) | (refine CallV.mk _ (hC _ _ _ (PCw.of hI)) (fun js hjs => ?_); subst hjs)); (try (conv => whnf))))
       refine Pos.mk 2 (by omega) (by decide) ?_
       (try (conv => whnf)); (repeat ((first | refine qT ?_ | refine qF ?_ | refine qO ?_ | (with_reducible intro z hz); (first | (replace hz := hz (by omega); subst hz) | subst hz)); (try (conv => whnf))))
       refine At.mk (.imm (.int .i64 9)) rfl ?_
       (try (conv => whnf)); (repeat ((first | refine qT ?_ | refine qF ?_ | refine qO ?_ | (with_reducible intro z hz); (first | (replace hz := hz (by omega); subst hz) | subst hz) | (refine CallV.mk _ (hC _ _ _ (PCw.of hI)) (fun js hjs => ?_); subst hjs)); (try (conv => whnf))))
       refine Imms.mk ((l ++ [ordE 9 e.act (-1) day]).map env1) (by simp [ordE]; rfl) ?_
       (try (conv => whnf)); (repeat ((first | refine qT ?_ | refine qF ?_ | refine qO ?_ | (with_reducible intro z hz); (first | (replace hz := hz (by omega); subst hz) | subst hz) | (refine CallV.mk _ (hC _ _ _ (PCw.of hI2)) (fun js hjs => ?_); subst hjs) | (refine CallV.mk _ (hC _ _ _ (PCw.of hC2)) (fun js hjs => ?_); subst hjs) | (refine CallV.mk _ (hC _ _ _ (PCw.of hC1)) (fun js hjs => ?_); subst hjs)); (try (conv => whnf))))
       exact hfin _ (ILes.refl _)
     have hv := hv2 hd
     rw [decide_eq_true (by decide), Bool.true_and] at hv
     clear hv1 hv2
     by_cases o0 : 0 ≤ other
     rotate_left
     · rw [decide_eq_false (fun h => o0 h.1)] at hv
       subst hv
       refine PC.of_va (T := tb0) eqs_ok tb_ok rfl mixed Try.func6 rfl rfl (Nat.le_of_ble_eq_true rfl) ?_; intro Γ C WK LP fin h0 hW hC hB hR hLP hfin
       (try (conv => whnf)); (repeat ((first | refine qT ?_ | refine qF ?_ | refine qO ?_ | (with_reducible intro z hz); (first | (replace hz := hz (by omega); subst hz) | subst hz) | (refine CallV.mk _ (hC _ _ _ (PCw.of hA)) (fun js hjs => ?_); subst hjs)); (try (conv => whnf))))
       refine Imms.mk ((e :: l).map env1) rfl ?_
       (try (conv => whnf)); (repeat ((first | refine qT ?_ | refine qF ?_ | refine qO ?_ | (with_reducible intro z hz); (first | (replace hz := hz (by omega); subst hz) | subst hz) | (refine CallV.mk _ (hC _ _ _ (PCw.of hF)) (fun js hjs => ?_); subst hjs) | (refine CallV.mk _ (hC _ _ _ (PCw.of hI)) (fun js hjs => ?_); subst hjs)); (try (conv => whnf))))
       refine Pos.mk 2 (by omega) (by decide) ?_
       (try (conv => whnf)); (repeat ((first | refine qT ?_ | refine qF ?_ | refine qO ?_ | (with_reducible intro z hz); (first | (replace hz := hz (by omega); subst hz) | subst hz)); (try (conv => whnf))))
       refine At.mk (.imm (.int .i64 9)) rfl ?_
       (try (conv => whnf)); (repeat ((first | refine qT ?_ | refine qF ?_ | refine qO ?_ | (with_reducible intro z hz); (first | (replace hz := hz (by omega); subst hz) | subst hz) | (refine CallV.mk _ (hC _ _ _ (PCw.of hI)) (fun js hjs => ?_); subst hjs)); (try (conv => whnf))))
       refine Imms.mk ((l ++ [ordE 9 e.act (-1) day]).map env1) (by simp [ordE]; rfl) ?_
       (try (conv => whnf)); (repeat ((first | refine qT ?_ | refine qF ?_ | refine qO ?_ | (with_reducible intro z hz); (first | (replace hz := hz (by omega); subst hz) | subst hz) | (refine CallV.mk _ (hC _ _ _ (PCw.of hI2)) (fun js hjs => ?_); subst hjs) | (refine CallV.mk _ (hC _ _ _ (PCw.of hC2)) (fun js hjs => ?_); subst hjs) | (refine CallV.mk _ (hC _ _ _ (PCw.of hC1)) (fun js hjs => ?_); subst hjs)); (try (conv => whnf))))
       exact hfin _ (ILes.refl _)
     by_cases o1 : other ≤ 1048576
     · rw [decide_eq_true ⟨o0, o1⟩] at hv
       subst hv
       refine PC.of_va (T := tb0) eqs_ok tb_ok rfl mixed Try.func6 rfl rfl (Nat.le_of_ble_eq_true rfl) ?_; intro Γ C WK LP fin h0 hW hC hB hR hLP hfin
       (try (conv => whnf)); (repeat ((first | refine qT ?_ | refine qF ?_ | refine qO ?_ | (with_reducible intro z hz); (first | (replace hz := hz (by omega); subst hz) | subst hz) | (refine CallV.mk _ (hC _ _ _ (PCw.of hA)) (fun js hjs => ?_); subst hjs)); (try (conv => whnf))))
       refine Imms.mk ((e :: l).map env1) rfl ?_
       (try (conv => whnf)); (repeat ((first | refine qT ?_ | refine qF ?_ | refine qO ?_ | (with_reducible intro z hz); (first | (replace hz := hz (by omega); subst hz) | subst hz) | (refine CallV.mk _ (hC _ _ _ (PCw.of hF)) (fun js hjs => ?_); subst hjs) | (refine CallV.mk _ (hC _ _ _ (PCw.of hI)) (fun js hjs => ?_); subst hjs)); (try (conv => whnf))))
       refine Pos.mk 2 (by omega) (by decide) ?_
       (try (conv => whnf)); (repeat ((first | refine qT ?_ | refine qF ?_ | refine qO ?_ | (with_reducible intro z hz); (first | (replace hz := hz (by omega); subst hz) | subst hz)); (try (conv => whnf))))
       refine At.mk (.imm (.int .i64 9)) rfl ?_
       (try (conv => whnf)); (repeat ((first | refine qT ?_ | refine qF ?_ | refine qO ?_ | (with_reducible intro z hz); (first | (replace hz := hz (by omega); subst hz) | subst hz) | (refine CallV.mk _ (hC _ _ _ (PCw.of hI)) (fun js hjs => ?_); subst hjs)); (try (conv => whnf))))
       refine Imms.mk ((l ++ [ordE 9 e.act (-1) day]).map env1) (by simp [ordE]; rfl) ?_
       (try (conv => whnf)); (repeat ((first | refine qT ?_ | refine qF ?_ | refine qO ?_ | (with_reducible intro z hz); (first | (replace hz := hz (by omega); subst hz) | subst hz) | (refine CallV.mk _ (hC _ _ _ (PCw.of hI2)) (fun js hjs => ?_); subst hjs) | (refine CallV.mk _ (hC _ _ _ (PCw.of hC2)) (fun js hjs => ?_); subst hjs) | (refine CallV.mk _ (hC _ _ _ (PCw.of hC1)) (fun js hjs => ?_); subst hjs)); (try (conv => whnf))))
       exact hfin _ (ILes.refl _)
     · rw [decide_eq_false (fun h => o1 h.2)] at hv
       subst hv
       refine PC.of_va (T := tb0) eqs_ok tb_ok rfl mixed Try.func6 rfl rfl (Nat.le_of_ble_eq_true rfl) ?_; intro Γ C WK LP fin h0 hW hC hB hR hLP hfin
       (try (conv => whnf)); (repeat ((first | refine qT ?_ | refine qF ?_ | refine qO ?_ | (with_reducible intro z hz); (first | (replace hz := hz (by omega); subst hz) | subst hz) | (refine CallV.mk _ (hC _ _ _ (PCw.of hA)) (fun js hjs => ?_); subst hjs)); (try (conv => whnf))))
       refine Imms.mk ((e :: l).map env1) rfl ?_
       (try (conv => whnf)); (repeat ((first | refine qT ?_ | refine qF ?_ | refine qO ?_ | (with_reducible intro z hz); (first | (replace hz := hz (by omega); subst hz) | subst hz) | (refine CallV.mk _ (hC _ _ _ (PCw.of hF)) (fun js hjs => ?_); subst hjs) | (refine CallV.mk _ (hC _ _ _ (PCw.of hI)) (fun js hjs => ?_); subst hjs)); (try (conv => whnf))))
       refine Pos.mk 2 (by omega) (by decide) ?_
       (try (conv => whnf)); (repeat ((first | refine qT ?_ | refine qF ?_ | refine qO ?_ | (with_reducible intro z hz); (first | (replace hz := hz (by omega); subst hz) | subst hz)); (try (conv => whnf))))
       refine At.mk (.imm (.int .i64 9)) rfl ?_
       (try (conv => whnf)); (repeat ((first | refine qT ?_ | refine qF ?_ | refine qO ?_ | (with_reducible intro z hz); (first | (replace hz := hz (by omega); subst hz) | subst hz) | (refine CallV.mk _ (hC _ _ _ (PCw.of hI)) (fun js hjs => ?_); subst hjs)); (try (conv => whnf))))
       refine Imms.mk ((l ++ [ordE 9 e.act (-1) day]).map env1) (by simp [ordE]; rfl) ?_
       (try (conv => whnf)); (repeat ((first | refine qT ?_ | refine qF ?_ | refine qO ?_ | (with_reducible intro z hz); (first | (replace hz := hz (by omega); subst hz) | subst hz) | (refine CallV.mk _ (hC _ _ _ (PCw.of hI2)) (fun js hjs => ?_); subst hjs) | (refine CallV.mk _ (hC _ _ _ (PCw.of hC2)) (fun js hjs => ?_); subst hjs) | (refine CallV.mk _ (hC _ _ _ (PCw.of hC1)) (fun js hjs => ?_); subst hjs)); (try (conv => whnf))))
       exact hfin _ (ILes.refl _)
   by_cases t21 : Int.tmod kind 3 = 2 ∧ Int.tmod kind 2 = 1
   · obtain ⟨t3, t2⟩ := t21
     obtain ⟨D2, c, hI2, hC2, hv1, hv2⟩ := key 9 e.item (by omega) (by exact Or.inl rfl)
     by_cases hd : other < day
     · have hv := hv1 hd
       subst hv
       refine PC.of_va (T := tb0) eqs_ok tb_ok rfl mixed Try.func6 rfl rfl (Nat.le_of_ble_eq_true rfl) ?_; intro Γ C WK LP fin h0 hW hC hB hR hLP hfin
       (try (conv => whnf)); (repeat ((first | refine qT ?_ | refine qF ?_ | refine qO ?_ | (with_reducible intro z hz); (first | (replace hz := hz (by omega); subst hz) | subst hz) | (refine CallV.mk _ (hC _ _ _ (PCw.of hA)) (fun js hjs => ?_); subst hjs)); (try (conv => whnf))))
       refine Imms.mk ((e :: l).map env1) rfl ?_
       (try (conv => whnf)); (repeat ((first | refine qT ?_ | refine qF ?_ | refine qO ?_ | (with_reducible intro z hz); (first | (replace hz := hz (by omega); subst hz) | subst hz) | (refine CallV.mk _ (hC _ _ _ (PCw.of hF)) (fun js hjs => ?_); subst hjs) | (refine CallV.mk _ (hC _ _ _ (PCw.of hI)) (fun js hjs => ?_); subst hjs)); (try (conv => whnf))))
       refine Pos.mk 2 (by omega) (by decide) ?_
       (try (conv => whnf)); (repeat ((first | refine qT ?_ | refine qF ?_ | refine qO ?_ | (with_reducible intro z hz); (first | (replace hz := hz (by omega); subst hz) | subst hz)); (try (conv => whnf))))
       refine At.mk (.imm (.int .i64 9)) rfl ?_
       (try (conv => whnf)); (repeat ((first | refine qT ?_ | refine qF ?_ | refine qO ?_ | (with_reducible intro z hz); (first | (replace hz := hz (by omega); subst hz) | subst hz) | (refine CallV.mk _ (hC _ _ _ (PCw.of hI)) (fun js hjs => ?_); subst hjs)); (try (conv => whnf))))
       refine Imms.mk ((l ++ [ordE 9 e.act e.item day]).map env1) (by simp [ordE]; rfl) ?_
       (try (conv => whnf)); (repeat ((first | refine qT ?_ | refine qF ?_ | refine qO ?_ | (with_reducible intro z hz); (first | (replace hz := hz (by omega); subst hz) | subst hz) | (refine CallV.mk _ (hC _ _ _ (PCw.of hI2)) (fun js hjs => ?_); subst hjs) | (refine CallV.mk _ (hC _ _ _ (PCw.of hC2)) (fun js hjs => ?_); subst hjs) | (refine CallV.mk _ (hC _ _ _ (PCw.of hC1)) (fun js hjs => ?_); subst hjs)); (try (conv => whnf))))
       exact hfin _ (ILes.refl _)
     have hv := hv2 hd
     rw [decide_eq_true (by decide), Bool.true_and] at hv
     clear hv1 hv2
     by_cases o0 : 0 ≤ other
     rotate_left
     · rw [decide_eq_false (fun h => o0 h.1)] at hv
       subst hv
       refine PC.of_va (T := tb0) eqs_ok tb_ok rfl mixed Try.func6 rfl rfl (Nat.le_of_ble_eq_true rfl) ?_; intro Γ C WK LP fin h0 hW hC hB hR hLP hfin
       (try (conv => whnf)); (repeat ((first | refine qT ?_ | refine qF ?_ | refine qO ?_ | (with_reducible intro z hz); (first | (replace hz := hz (by omega); subst hz) | subst hz) | (refine CallV.mk _ (hC _ _ _ (PCw.of hA)) (fun js hjs => ?_); subst hjs)); (try (conv => whnf))))
       refine Imms.mk ((e :: l).map env1) rfl ?_
       (try (conv => whnf)); (repeat ((first | refine qT ?_ | refine qF ?_ | refine qO ?_ | (with_reducible intro z hz); (first | (replace hz := hz (by omega); subst hz) | subst hz) | (refine CallV.mk _ (hC _ _ _ (PCw.of hF)) (fun js hjs => ?_); subst hjs) | (refine CallV.mk _ (hC _ _ _ (PCw.of hI)) (fun js hjs => ?_); subst hjs)); (try (conv => whnf))))
       refine Pos.mk 2 (by omega) (by decide) ?_
       (try (conv => whnf)); (repeat ((first | refine qT ?_ | refine qF ?_ | refine qO ?_ | (with_reducible intro z hz); (first | (replace hz := hz (by omega); subst hz) | subst hz)); (try (conv => whnf))))
       refine At.mk (.imm (.int .i64 9)) rfl ?_
       (try (conv => whnf)); (repeat ((first | refine qT ?_ | refine qF ?_ | refine qO ?_ | (with_reducible intro z hz); (first | (replace hz := hz (by omega); subst hz) | subst hz) | (refine CallV.mk _ (hC _ _ _ (PCw.of hI)) (fun js hjs => ?_); subst hjs)); (try (conv => whnf))))
       refine Imms.mk ((l ++ [ordE 9 e.act e.item day]).map env1) (by simp [ordE]; rfl) ?_
       (try (conv => whnf)); (repeat ((first | refine qT ?_ | refine qF ?_ | refine qO ?_ | (with_reducible intro z hz); (first | (replace hz := hz (by omega); subst hz) | subst hz) | (refine CallV.mk _ (hC _ _ _ (PCw.of hI2)) (fun js hjs => ?_); subst hjs) | (refine CallV.mk _ (hC _ _ _ (PCw.of hC2)) (fun js hjs => ?_); subst hjs) | (refine CallV.mk _ (hC _ _ _ (PCw.of hC1)) (fun js hjs => ?_); subst hjs)); (try (conv => whnf))))
       exact hfin _ (ILes.refl _)
     by_cases o1 : other ≤ 1048576
     · rw [decide_eq_true ⟨o0, o1⟩] at hv
       subst hv
       refine PC.of_va (T := tb0) eqs_ok tb_ok rfl mixed Try.func6 rfl rfl (Nat.le_of_ble_eq_true rfl) ?_; intro Γ C WK LP fin h0 hW hC hB hR hLP hfin
       (try (conv => whnf)); (repeat ((first | refine qT ?_ | refine qF ?_ | refine qO ?_ | (with_reducible intro z hz); (first | (replace hz := hz (by omega); subst hz) | subst hz) | (refine CallV.mk _ (hC _ _ _ (PCw.of hA)) (fun js hjs => ?_); subst hjs)); (try (conv => whnf))))
       refine Imms.mk ((e :: l).map env1) rfl ?_
       (try (conv => whnf)); (repeat ((first | refine qT ?_ | refine qF ?_ | refine qO ?_ | (with_reducible intro z hz); (first | (replace hz := hz (by omega); subst hz) | subst hz) | (refine CallV.mk _ (hC _ _ _ (PCw.of hF)) (fun js hjs => ?_); subst hjs) | (refine CallV.mk _ (hC _ _ _ (PCw.of hI)) (fun js hjs => ?_); subst hjs)); (try (conv => whnf))))
       refine Pos.mk 2 (by omega) (by decide) ?_
       (try (conv => whnf)); (repeat ((first | refine qT ?_ | refine qF ?_ | refine qO ?_ | (with_reducible intro z hz); (first | (replace hz := hz (by omega); subst hz) | subst hz)); (try (conv => whnf))))
       refine At.mk (.imm (.int .i64 9)) rfl ?_
       (try (conv => whnf)); (repeat ((first | refine qT ?_ | refine qF ?_ | refine qO ?_ | (with_reducible intro z hz); (first | (replace hz := hz (by omega); subst hz) | subst hz) | (refine CallV.mk _ (hC _ _ _ (PCw.of hI)) (fun js hjs => ?_); subst hjs)); (try (conv => whnf))))
       refine Imms.mk ((l ++ [ordE 9 e.act e.item day]).map env1) (by simp [ordE]; rfl) ?_
       (try (conv => whnf)); (repeat ((first | refine qT ?_ | refine qF ?_ | refine qO ?_ | (with_reducible intro z hz); (first | (replace hz := hz (by omega); subst hz) | subst hz) | (refine CallV.mk _ (hC _ _ _ (PCw.of hI2)) (fun js hjs => ?_); subst hjs) | (refine CallV.mk _ (hC _ _ _ (PCw.of hC2)) (fun js hjs => ?_); subst hjs) | (refine CallV.mk _ (hC _ _ _ (PCw.of hC1)) (fun js hjs => ?_); subst hjs)); (try (conv => whnf))))
       exact hfin _ (ILes.refl _)
     · rw [decide_eq_false (fun h => o1 h.2)] at hv
       subst hv
       refine PC.of_va (T := tb0) eqs_ok tb_ok rfl mixed Try.func6 rfl rfl (Nat.le_of_ble_eq_true rfl) ?_; intro Γ C WK LP fin h0 hW hC hB hR hLP hfin
       (try (conv => whnf)); (repeat ((first | refine qT ?_ | refine qF ?_ | refine qO ?_ | (with_reducible intro z hz); (first | (replace hz := hz (by omega); subst hz) | subst hz) | (refine CallV.mk _ (hC _ _ _ (PCw.of hA)) (fun js hjs => ?_); subst hjs)); (try (conv => whnf))))
       refine Imms.mk ((e :: l).map env1) rfl ?_
       (try (conv => whnf)); (repeat ((first | refine qT ?_ | refine qF ?_ | refine qO ?_ | (with_reducible intro z hz); (first | (replace hz := hz (by omega); subst hz) | subst hz) | (refine CallV.mk _ (hC _ _ _ (PCw.of hF)) (fun js hjs => ?_); subst hjs) | (refine CallV.mk _ (hC _ _ _ (PCw.of hI)) (fun js hjs => ?_); subst hjs)); (try (conv => whnf))))
       refine Pos.mk 2 (by omega) (by decide) ?_
       (try (conv => whnf)); (repeat ((first | refine qT ?_ | refine qF ?_ | refine qO ?_ | (with_reducible intro z hz); (first | (replace hz := hz (by omega); subst hz) | subst hz)); (try (conv => whnf))))
       refine At.mk (.imm (.int .i64 9)) rfl ?_
       (try (conv => whnf)); (repeat ((first | refine qT ?_ | refine qF ?_ | refine qO ?_ | (with_reducible intro z hz); (first | (replace hz := hz (by omega); subst hz) | subst hz) | (refine CallV.mk _ (hC _ _ _ (PCw.of hI)) (fun js hjs => ?_); subst hjs)); (try (conv => whnf))))
       refine Imms.mk ((l ++ [ordE 9 e.act e.item day]).map env1) (by simp [ordE]; rfl) ?_
       (try (conv => whnf)); (repeat ((first | refine qT ?_ | refine qF ?_ | refine qO ?_ | (with_reducible intro z hz); (first | (replace hz := hz (by omega); subst hz) | subst hz) | (refine CallV.mk _ (hC _ _ _ (PCw.of hI2)) (fun js hjs => ?_); subst hjs) | (refine CallV.mk _ (hC _ _ _ (PCw.of hC2)) (fun js hjs => ?_); subst hjs) | (refine CallV.mk _ (hC _ _ _ (PCw.of hC1)) (fun js hjs => ?_); subst hjs)); (try (conv => whnf))))
       exact hfin _ (ILes.refl _)
   exfalso
   have e3 : Int.tmod kind 3 = kind % 3 := Int.tmod_eq_emod_of_nonneg hk0
   have e2 : Int.tmod kind 2 = kind % 2 := Int.tmod_eq_emod_of_nonneg hk0
   rw [e3, e2] at t00 t01 t10 t11 t20 t21
   omega
theorem u8_of {z : Int} (hw : (Lit.int .u8 z).wf = true) : 0 ≤ z ∧ z ≤ 255 := by
 simp [Lit.wf, IntKind.min, IntKind.max, IntKind.signed, IntKind.bits] at hw
 omega
theorem lastL (a : St) (ha : FitS a) (e : En) (he : FitI e.it) (l : List En) (w : l.length * 392 ≤ 140737488351232 ∧ ∀ x ∈ l, FitI x.it) (kind : Int) (hk : (Lit.int .u8 kind).wf = true) (day other : Int) : PC Try.prog env0 6 [stv a, env1 e, .sl 28 (l.map env1), .int .u8 kind, .int .i64 day, .int .i64 other] [.bool true] := by
 refine lawLastOrder a e l kind (u8_of hk).1 (u8_of hk).2 day other ?_ (.of he w.1 w.2)
 unfold FitS maxLen at ha
 omega
end Go.Proofs.Ytmgjpmjmondplaa.Pe
