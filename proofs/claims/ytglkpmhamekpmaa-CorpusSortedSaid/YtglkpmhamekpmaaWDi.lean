/-
  Corpus: the law of finds.
-/
import Derived.Test.YtglkpmhamekpmaaWDh
namespace Go.Proofs.Ytglkpmhamekpmaa.Po
open Go Go.Pv Go.RowKit
set_option linter.unusedSimpArgs false
open Lab Lcs Go.Proofs.Ytglkpmhamekpmaa Go.Proofs.Ytglkpmhamekpmaa.Pu
set_option maxRecDepth 10000
set_option maxHeartbeats 32000000
set_option maxRecDepth 100000 in
theorem sameZ_pc : PC Try.prog env0 16 [eivZ, eivZ] [.bool true] :=
 exF_pc (eq := eqsP Try.prog) (ct := fun _ _ _ => none) (fz := fun _ => false) (S := 6) (M := 4000) (n := 60) eqsP2_ok mixed (fun _ _ _ _ _ h => by cases h) (by kernel_rfl)
theorem findsLaw (l : List Gz) (hF : FitL l) (n i d : Int) : PC Try.prog env0 4 [.sl 4 (l.map gzv), .int .i64 n, .int .i64 i, .int .i64 d] [.bool true] := by
 have hA := awake_pc
 have hFw := few28_pc l 30 (by omega) (by omega) (by have := hF.1; unfold maxLen; omega) hF.2
 cases hb : fewZ l 30 with
 | false =>
   rw [hb] at hFw
   refine PC.of_va (T := tb0) eqs_ok tb_ok rfl mixed Try.func4 rfl rfl (Nat.le_of_ble_eq_true rfl) ?_; intro Γ C WK LP fin h0 hW hC hB hR hLP hfin
   (try (conv => whnf)); (repeat ((first | refine qT ?_ | refine qF ?_ | refine qO ?_ | (with_reducible intro z hz); (first | (replace hz := hz (by omega); subst hz) | subst hz) | (refine CallV.mk _ (hC _ _ _ (PCw.of hFw)) (fun js hjs => ?_); subst hjs) | (refine CallV.mk _ (hC _ _ _ (PCw.of hA)) (fun js hjs => ?_); subst hjs)); (try (conv => whnf))))
   exact hfin _ (ILes.refl _)
 | true =>
   rw [hb] at hFw
   have h30 := few30 (m := 30) (by omega) hF.2 hb
   obtain ⟨k, hk⟩ := isSince_ex l n i
   have h1 := h30.find n i
   have h2 := h30.findRef (by omega) n i
   have h3 := h30.knownSince n i k hk
   have h4 := h30.since (by omega) n i k hk
   have h5 := publishedBy_pc d l (by have := h30.len; omega)
   have h6 := by_pc d l (by have := h30.len; omega)
   generalize byN d l = z at *
   cases hf : findL (deeds l) n i with
   | none =>
     rw [hf] at h1 h2
     have h7 := sameZ_pc
     refine PC.of_va (T := tb0) eqs_ok tb_ok rfl mixed Try.func4 rfl rfl (Nat.le_of_ble_eq_true rfl) ?_; intro Γ C WK LP fin h0 hW hC hB hR hLP hfin
     (try (conv => whnf)); (repeat ((first | refine qT ?_ | refine qF ?_ | refine qO ?_ | (with_reducible intro z hz); (first | (replace hz := hz (by omega); subst hz) | subst hz) | (refine CallV.mk _ (hC _ _ _ (PCw.of hFw)) (fun js hjs => ?_); subst hjs) | (refine CallV.mk _ (hC _ _ _ (PCw.of h1)) (fun js hjs => ?_); subst hjs) | (refine CallV.mk _ (hC _ _ _ (PCw.of h2)) (fun js hjs => ?_); subst hjs) | (refine CallV.mk _ (hC _ _ _ (PCw.of h3)) (fun js hjs => ?_); subst hjs) | (refine CallV.mk _ (hC _ _ _ (PCw.of h4)) (fun js hjs => ?_); subst hjs) | (refine CallV.mk _ (hC _ _ _ (PCw.of h5)) (fun js hjs => ?_); subst hjs) | (refine CallV.mk _ (hC _ _ _ (PCw.of h6)) (fun js hjs => ?_); subst hjs) | (refine CallV.mk _ (hC _ _ _ (PCw.of h7)) (fun js hjs => ?_); subst hjs) | (refine CallV.mk _ (hC _ _ _ (PCw.of hA)) (fun js hjs => ?_); subst hjs)); (try (conv => whnf))))
     exact hfin _ (ILes.refl _)
   | some e =>
     have h7 := same28_pc e e (h30.findCp hf) (h30.findCp hf)
     rw [decide_eq_true rfl] at h7
     rw [eiv_eq e] at h7
     rw [hf] at h1 h2
     rw [show oeiv (some e) = eiv e from rfl, eiv_eq e] at h1 h2
     refine PC.of_va (T := tb0) eqs_ok tb_ok rfl mixed Try.func4 rfl rfl (Nat.le_of_ble_eq_true rfl) ?_; intro Γ C WK LP fin h0 hW hC hB hR hLP hfin
     (try (conv => whnf)); (repeat ((first | refine qT ?_ | refine qF ?_ | refine qO ?_ | (with_reducible intro z hz); (first | (replace hz := hz (by omega); subst hz) | subst hz) | (refine CallV.mk _ (hC _ _ _ (PCw.of hFw)) (fun js hjs => ?_); subst hjs) | (refine CallV.mk _ (hC _ _ _ (PCw.of h1)) (fun js hjs => ?_); subst hjs) | (refine CallV.mk _ (hC _ _ _ (PCw.of h2)) (fun js hjs => ?_); subst hjs) | (refine CallV.mk _ (hC _ _ _ (PCw.of h3)) (fun js hjs => ?_); subst hjs) | (refine CallV.mk _ (hC _ _ _ (PCw.of h4)) (fun js hjs => ?_); subst hjs) | (refine CallV.mk _ (hC _ _ _ (PCw.of h5)) (fun js hjs => ?_); subst hjs) | (refine CallV.mk _ (hC _ _ _ (PCw.of h6)) (fun js hjs => ?_); subst hjs) | (refine CallV.mk _ (hC _ _ _ (PCw.of h7)) (fun js hjs => ?_); subst hjs) | (refine CallV.mk _ (hC _ _ _ (PCw.of hA)) (fun js hjs => ?_); subst hjs)); (try (conv => whnf))))
     exact hfin _ (ILes.refl _)
end Go.Proofs.Ytglkpmhamekpmaa.Po
