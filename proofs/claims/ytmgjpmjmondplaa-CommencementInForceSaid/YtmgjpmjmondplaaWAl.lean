/-
  Canonical lists of days: Valid; the law of InForce.
-/
import Derived.Test.YtmgjpmjmondplaaWAj
import Derived.Test.YtmgjpmjmondplaaWAk
namespace Go.Proofs.Ytmgjpmjmondplaa.Pe
open Go Go.Pv Go.RowKit
set_option linter.unusedSimpArgs false
open Spans Rm
set_option maxRecDepth 10000
set_option maxHeartbeats 16000000
theorem force_has (a : St) (e : En) (l : List En) : ∃ P, forceL a e l = canon P ∧ HasC P (1 + l.length) := by
 unfold forceL
 split
 · exact ⟨_, rfl, days_has (dayP_has _)⟩
 · exact ⟨dayP none, day_none.symm, (dayP_has none).1, Nat.le_trans (dayP_has none).2 (by omega)⟩
theorem valid_pc (L : List Sp) (hs : SepL (-1) L) (hl : L.length ≤ 4096) : PC Try.prog env0 23 [.sl 2 (L.map spv)] [.bool true] := by
 refine ⟨enters_of Try.func23 rfl rfl, fun Q w vs hQ _ _ hvs => ?_⟩
 unfold RepIs at hvs
 obtain ⟨v, r, rfl, h1, h2⟩ := hvs
 unfold RepIs at h2
 subst h2
 obtain ⟨A, n, c, rfl, hz⟩ := spans_at hQ h1
 have hv : validB L = true := by unfold validB; rw [(sepB_iff L (-1)).2 hs, decide_eq_true hl]; rfl
 refine (valid_any L n c A w hz (by have := hz.1; unfold maxLen; omega)).mono ?_
 rintro e w' ⟨rfl, hb⟩
 rw [hv]
 exact ⟨_, Q, rfl, hb, fun b h => h, fun b h => ⟨Or.inl h, Nat.lt_of_lt_of_le (hQ b h) hb.size⟩, by unfold RepRes RepI; rfl⟩
def InE (e : En) (l : List En) : Prop := l.length * 392 ≤ 140737488351232 ∧ ∀ x ∈ e :: l, x.it.ev.size ≤ 9223372036854775807 ∧ x.it.st.e.size ≤ 9223372036854775807
theorem few2_pc (e : En) (l : List En) (h : InE e l) : PC Try.prog env0 11 [.sl 28 ((e :: l).map env1)] [.bool (fewE (e :: l))] := few_pc (e :: l) (by have := h.1; rw [List.length_cons]; omega) h.2
theorem few_le {e : En} {l : List En} (h : fewE (e :: l) = true) : l.length ≤ 39 := by
 unfold fewE at h
 simp at h
 omega
theorem lawInForce (a : St) (e : En) (l : List En) (ha : a.e.size ≤ 9223372036854775807) (h : InE e l) : PC Try.prog env0 5 [stv a, env1 e, .sl 28 (l.map env1)] [.bool true] := by
 have hA := awake_pc
 have hF := few2_pc e l h
 have hml : (l.map env1).length = l.length := List.length_map _
 have hb := h.1
 rw [env_eq e]
 unfold stv
 cases hfe : fewE (e :: l) with
 | false =>
   rw [hfe] at hF
   refine PC.of_va (T := tb0) eqs_ok tb_ok rfl mixed Try.func5 rfl rfl (Nat.le_of_ble_eq_true rfl) ?_; intro Γ C WK LP fin h0 hW hC hB hR hLP hfin
   (try (conv => whnf)); (repeat ((first | refine qT ?_ | refine qF ?_ | refine qO ?_ | (with_reducible intro z hz); (first | (replace hz := hz (by omega); subst hz) | subst hz) | (refine CallV.mk _ (hC _ _ _ (PCw.of hA)) (fun js hjs => ?_); subst hjs)); (try (conv => whnf))))
   refine Imms.mk ((e :: l).map env1) rfl ?_
   (try (conv => whnf)); (repeat ((first | refine qT ?_ | refine qF ?_ | refine qO ?_ | (with_reducible intro z hz); (first | (replace hz := hz (by omega); subst hz) | subst hz) | (refine CallV.mk _ (hC _ _ _ (PCw.of hF)) (fun js hjs => ?_); subst hjs) | (refine CallV.mk _ (hC _ _ _ (PCw.of hA)) (fun js hjs => ?_); subst hjs)); (try (conv => whnf))))
   exact hfin _ (ILes.refl _)
 | true =>
   have hle := few_le hfe
   rw [hfe] at hF
   by_cases h1 : a.e.size ≤ 100
   rotate_left
   · refine PC.of_va (T := tb0) eqs_ok tb_ok rfl mixed Try.func5 rfl rfl (Nat.le_of_ble_eq_true rfl) ?_; intro Γ C WK LP fin h0 hW hC hB hR hLP hfin
     (try (conv => whnf)); (repeat ((first | refine qT ?_ | refine qF ?_ | refine qO ?_ | (with_reducible intro z hz); (first | (replace hz := hz (by omega); subst hz) | subst hz) | (refine CallV.mk _ (hC _ _ _ (PCw.of hA)) (fun js hjs => ?_); subst hjs)); (try (conv => whnf))))
     refine Imms.mk ((e :: l).map env1) rfl ?_
     (try (conv => whnf)); (repeat ((first | refine qT ?_ | refine qF ?_ | refine qO ?_ | (with_reducible intro z hz); (first | (replace hz := hz (by omega); subst hz) | subst hz) | (refine CallV.mk _ (hC _ _ _ (PCw.of hF)) (fun js hjs => ?_); subst hjs) | (refine CallV.mk _ (hC _ _ _ (PCw.of hA)) (fun js hjs => ?_); subst hjs)); (try (conv => whnf))))
     exact hfin _ (ILes.refl _)
   have hI := inforce_pc a e l (by omega)
   have hS := rspans_pc a e l (by omega)
   obtain ⟨P, hP, hc⟩ := force_has a e l
   rw [hP] at hI hS
   rw [env_eq e] at hI hS
   unfold stv at hI hS
   have hcl := hc.2
   have hQ := same_self (canon P) (by omega)
   have hV := valid_pc (canon P) hc.1.1 (by omega)
   generalize canon P = D at *
   refine PC.of_va (T := tb0) eqs_ok tb_ok rfl mixed Try.func5 rfl rfl (Nat.le_of_ble_eq_true rfl) ?_; intro Γ C WK LP fin h0 hW hC hB hR hLP hfin
   (try (conv => whnf)); (repeat ((first | refine qT ?_ | refine qF ?_ | refine qO ?_ | (with_reducible intro z hz); (first | (replace hz := hz (by omega); subst hz) | subst hz) | (refine CallV.mk _ (hC _ _ _ (PCw.of hA)) (fun js hjs => ?_); subst hjs)); (try (conv => whnf))))
   refine Imms.mk ((e :: l).map env1) rfl ?_
   (try (conv => whnf)); (repeat ((first | refine qT ?_ | refine qF ?_ | refine qO ?_ | (with_reducible intro z hz); (first | (replace hz := hz (by omega); subst hz) | subst hz) | (refine CallV.mk _ (hC _ _ _ (PCw.of hF)) (fun js hjs => ?_); subst hjs) | (refine CallV.mk _ (hC _ _ _ (PCw.of hI)) (fun js hjs => ?_); subst hjs) | (refine CallV.mk _ (hC _ _ _ (PCw.of hS)) (fun js hjs => ?_); subst hjs) | (refine CallV.mk _ (hC _ _ _ (PCw.of hQ)) (fun js hjs => ?_); subst hjs) | (refine CallV.mk _ (hC _ _ _ (PCw.of hV)) (fun js hjs => ?_); subst hjs)); (try (conv => whnf))))
   exact hfin _ (ILes.refl _)
theorem InE.of {e : En} {l : List En} (he : FitI e.it) (hl : l.length * 392 ≤ 140737488351232) (hf : ∀ x ∈ l, FitI x.it) : InE e l := by
 refine ⟨hl, fun x hx => ?_⟩
 have hx : FitI x.it := by
   rcases List.mem_cons.1 hx with rfl | hx
   · exact he
   · exact hf x hx
 obtain ⟨h1, h2⟩ := hx
 unfold FitS maxLen at *
 omega
theorem inForceL (a : St) (ha : FitS a) (e : En) (he : FitI e.it) (l : List En) (w : l.length * 392 ≤ 140737488351232 ∧ ∀ x ∈ l, FitI x.it) : PC Try.prog env0 5 [stv a, env1 e, .sl 28 (l.map env1)] [.bool true] := by
 refine lawInForce a e l ?_ (.of he w.1 w.2)
 unfold FitS maxLen at ha
 omega
end Go.Proofs.Ytmgjpmjmondplaa.Pe
