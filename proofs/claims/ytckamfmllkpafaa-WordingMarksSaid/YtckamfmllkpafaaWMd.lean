/-
  The law of Mark, Strings and Authors.
-/
import Derived.Test.YtckamfmllkpafaaWMc
namespace Go.Proofs.Ytckamfmllkpafaa.Pw
open Go Go.Pv Go.RowKit Go.Proofs.Ytckamfmllkpafaa.Pu Go.Proofs.Ytckamfmllkpafaa.Pb
set_option linter.unusedSimpArgs false
open Lab Lcs Go.Proofs.Ytckamfmllkpafaa
set_option maxRecDepth 10000
set_option maxHeartbeats 16000000
theorem few1_pc (w : List Wd) (a : List Str) (hw : w.length ≤ 9223372036854775807) (ha : a.length ≤ 9223372036854775807) : PC Try.prog env0 11 [.sl 4 (w.map wdv), .sl 1 [.sl 1 (a.map IV.str)]] [.bool (fewW w [a])] :=
 few_pc w [a] hw (by simp) (by
   intro l hl
   rcases List.mem_cons.1 hl with rfl | hl
   · exact ha
   · cases hl)
theorem fewW_fact1 {w : List Wd} {a : List Str} (h : fewW w [a] = true) : w.length ≤ 300 ∧ a.length ≤ 300 := by
 unfold fewW shortW briefS at h
 simp only [List.all_cons, List.all_nil, Bool.and_true, Bool.and_eq_true, decide_eq_true_eq] at h
 exact ⟨h.2.2, h.1.2⟩
theorem txts_mkW (a i : Int) : ∀ (f : Int) (l : List Str), txts (mkW a i f l) = l
 | _, [] => rfl
 | f, s :: r => by
   have := txts_mkW a i (f + 1) r
   unfold txts at this ⊢
   rw [mkW, List.map_cons, this]
theorem mkW_lenR (a i : Int) : ∀ (f : Int) (l : List Str), (mkW a i f l).length = l.length
 | _, [] => rfl
 | f, s :: r => by rw [mkW, List.length_cons, mkW_lenR a i (f + 1) r, List.length_cons]
theorem lawMarks (l : List Str) (hl : l.length ≤ 9223372036854775807) (a i f : Int) (w : List Wd) (hw : w.length ≤ 9223372036854775807) : PC Try.prog env0 4 [.sl 1 (l.map IV.str), .int .i64 a, .int .i64 i, .int .i64 f, .sl 4 (w.map wdv)] [.bool true] := by
 have hA := awake_pc
 have hF := few1_pc w l hw hl
 have hwz : (w.map wdv).length = w.length := List.length_map _
 have hlz : (l.map IV.str).length = l.length := List.length_map _
 cases hf : fewW w [l] with
 | false =>
   rw [hf] at hF
   refine PC.of_va (T := tbx) eqs_ok tbf_ok rfl mixed Try.func4 rfl rfl (Nat.le_of_ble_eq_true rfl) ?_; intro Γ C WK LP fin h0 hW hC hB hR hLP hfin
   (try (conv => whnf)); (repeat ((first | refine qT ?_ | refine qF ?_ | refine qO ?_ | (with_reducible intro z hz); (first | (replace hz := hz (by omega); subst hz) | subst hz) | (refine CallV.mk _ (hC _ _ _ (PCw.of hA)) (fun js hjs => ?_); subst hjs)); (try (conv => whnf))))
   refine Imms.mk [.sl 1 (l.map IV.str)] rfl ?_
   (try (conv => whnf)); (repeat ((first | refine qT ?_ | refine qF ?_ | refine qO ?_ | (with_reducible intro z hz); (first | (replace hz := hz (by omega); subst hz) | subst hz) | (refine CallV.mk _ (hC _ _ _ (PCw.of hF)) (fun js hjs => ?_); subst hjs)); (try (conv => whnf))))
   exact hfin _ (ILes.refl _)
 | true =>
   rw [hf] at hF
   obtain ⟨h1, h2⟩ := fewW_fact1 hf
   by_cases c1 : f < -1099511627776
   · skip
     refine PC.of_va (T := tbx) eqs_ok tbf_ok rfl mixed Try.func4 rfl rfl (Nat.le_of_ble_eq_true rfl) ?_; intro Γ C WK LP fin h0 hW hC hB hR hLP hfin
     (try (conv => whnf)); (repeat ((first | refine qT ?_ | refine qF ?_ | refine qO ?_ | (with_reducible intro z hz); (first | (replace hz := hz (by omega); subst hz) | subst hz) | (refine CallV.mk _ (hC _ _ _ (PCw.of hA)) (fun js hjs => ?_); subst hjs)); (try (conv => whnf))))
     refine Imms.mk [.sl 1 (l.map IV.str)] rfl ?_
     (try (conv => whnf)); (repeat ((first | refine qT ?_ | refine qF ?_ | refine qO ?_ | (with_reducible intro z hz); (first | (replace hz := hz (by omega); subst hz) | subst hz) | (refine CallV.mk _ (hC _ _ _ (PCw.of hF)) (fun js hjs => ?_); subst hjs)); (try (conv => whnf))))
     exact hfin _ (ILes.refl _)
   by_cases c2 : 1099511627776 < f
   · skip
     refine PC.of_va (T := tbx) eqs_ok tbf_ok rfl mixed Try.func4 rfl rfl (Nat.le_of_ble_eq_true rfl) ?_; intro Γ C WK LP fin h0 hW hC hB hR hLP hfin
     (try (conv => whnf)); (repeat ((first | refine qT ?_ | refine qF ?_ | refine qO ?_ | (with_reducible intro z hz); (first | (replace hz := hz (by omega); subst hz) | subst hz) | (refine CallV.mk _ (hC _ _ _ (PCw.of hA)) (fun js hjs => ?_); subst hjs)); (try (conv => whnf))))
     refine Imms.mk [.sl 1 (l.map IV.str)] rfl ?_
     (try (conv => whnf)); (repeat ((first | refine qT ?_ | refine qF ?_ | refine qO ?_ | (with_reducible intro z hz); (first | (replace hz := hz (by omega); subst hz) | subst hz) | (refine CallV.mk _ (hC _ _ _ (PCw.of hF)) (fun js hjs => ?_); subst hjs)); (try (conv => whnf))))
     exact hfin _ (ILes.refl _)
   have hM := mark_pc l a i f (by omega) ⟨by omega, by omega⟩
   have hRm := rmark_pc l a i f (by omega) ⟨by omega, by omega⟩
   have hml := mkW_lenR a i f l
   have hQ := rows_pc (mkW a i f l) (mkW a i f l) (by omega) (by omega)
   have hS := strings_pc (mkW a i f l) (by omega)
   have hS2 := strings_pc w (by omega)
   have hT2 := texts_pc w (by omega)
   have hE := same4_pc l l (by omega) (by omega)
   have hE2 := same4_pc (txts w) (txts w) (by rw [txts_len]; omega) (by rw [txts_len]; omega)
   have hU := authors_pc w (by omega)
   have hV := rauthors_pc w (by omega)
   have hal := authL_len w []
   have hP := places_pc (authL w []) (authL w []) (by simp only [List.length_nil] at hal; omega) (by simp only [List.length_nil] at hal; omega)
   rw [txts_mkW] at hS
   rw [decide_eq_true rfl] at hQ hE hE2 hP
   refine PC.of_va (T := tbx) eqs_ok tbf_ok rfl mixed Try.func4 rfl rfl (Nat.le_of_ble_eq_true rfl) ?_; intro Γ C WK LP fin h0 hW hC hB hR hLP hfin
   (try (conv => whnf)); (repeat ((first | refine qT ?_ | refine qF ?_ | refine qO ?_ | (with_reducible intro z hz); (first | (replace hz := hz (by omega); subst hz) | subst hz) | (refine CallV.mk _ (hC _ _ _ (PCw.of hA)) (fun js hjs => ?_); subst hjs)); (try (conv => whnf))))
   refine Imms.mk [.sl 1 (l.map IV.str)] rfl ?_
   (try (conv => whnf)); (repeat ((first | refine qT ?_ | refine qF ?_ | refine qO ?_ | (with_reducible intro z hz); (first | (replace hz := hz (by omega); subst hz) | subst hz) | (refine CallV.mk _ (hC _ _ _ (PCw.of hF)) (fun js hjs => ?_); subst hjs) | (refine CallV.mk _ (hC _ _ _ (PCw.of hM)) (fun js hjs => ?_); subst hjs) | (refine CallV.mk _ (hC _ _ _ (PCw.of hRm)) (fun js hjs => ?_); subst hjs) | (refine CallV.mk _ (hC _ _ _ (PCw.of hQ)) (fun js hjs => ?_); subst hjs) | (refine CallV.mk _ (hC _ _ _ (PCw.of hS)) (fun js hjs => ?_); subst hjs) | (refine CallV.mk _ (hC _ _ _ (PCw.of hE)) (fun js hjs => ?_); subst hjs) | (refine CallV.mk _ (hC _ _ _ (PCw.of hS2)) (fun js hjs => ?_); subst hjs) | (refine CallV.mk _ (hC _ _ _ (PCw.of hT2)) (fun js hjs => ?_); subst hjs) | (refine CallV.mk _ (hC _ _ _ (PCw.of hE2)) (fun js hjs => ?_); subst hjs) | (refine CallV.mk _ (hC _ _ _ (PCw.of hU)) (fun js hjs => ?_); subst hjs) | (refine CallV.mk _ (hC _ _ _ (PCw.of hV)) (fun js hjs => ?_); subst hjs) | (refine CallV.mk _ (hC _ _ _ (PCw.of hP)) (fun js hjs => ?_); subst hjs)); (try (conv => whnf))))
   exact hfin _ (ILes.refl _)
end Go.Proofs.Ytckamfmllkpafaa.Pw
