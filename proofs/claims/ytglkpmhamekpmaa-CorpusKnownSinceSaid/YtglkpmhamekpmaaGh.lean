/-
  Corpus: the law of what is known since when. Corpus: what one gazette more changes (of no program but for the names). Corpus: the numbers of acts that occur more than once, by the reference. Corpus: the law of the gazettes' order.
-/
import Derived.Test.YtglkpmhamekpmaaGf
namespace Go.Proofs.Ytglkpmhamekpmaa.Po
open Go Go.Pv Go.RowKit
set_option linter.unusedSimpArgs false
open Lab Lcs Go.Proofs.Ytglkpmhamekpmaa Go.Proofs.Ytglkpmhamekpmaa.Pu
set_option maxRecDepth 10000
set_option maxHeartbeats 32000000
theorem knownLaw (l : List Gz) (hF : FitL l) (n i : Int) : PC Try.prog env0 8 [.sl 4 (l.map gzv), .int .i64 n, .int .i64 i] [.bool true] := by
 have hA := awake_pc
 have hFw := few28_pc l 30 (by omega) (by omega) (by have := hF.1; unfold maxLen; omega) hF.2
 cases hb : fewZ l 30 with
 | false =>
   rw [hb] at hFw
   refine PC.of_va (T := tb0) eqs_ok tb_ok rfl mixed Try.func8 rfl rfl (Nat.le_of_ble_eq_true rfl) ?_; intro Γ C WK LP fin h0 hW hC hB hR hLP hfin
   (try (conv => whnf)); (repeat ((first | refine qT ?_ | refine qF ?_ | refine qO ?_ | (with_reducible intro z hz); (first | (replace hz := hz (by omega); subst hz) | subst hz) | (refine CallV.mk _ (hC _ _ _ (PCw.of hFw)) (fun js hjs => ?_); subst hjs) | (refine CallV.mk _ (hC _ _ _ (PCw.of hA)) (fun js hjs => ?_); subst hjs)); (try (conv => whnf))))
   exact hfin _ (ILes.refl _)
 | true =>
   rw [hb] at hFw
   have h30 := few30 (m := 30) (by omega) hF.2 hb
   obtain ⟨k, hk⟩ := isSince_ex l n i
   have h1 := h30.find n i
   have h3 := h30.knownSince n i k hk
   have hml : (l.map gzv).length = l.length := List.length_map _
   have hl8 := h30.len
   unfold IsSince at hk
   cases hf : findL (deeds l) n i with
   | none =>
     rw [hf] at h1 hk
     dsimp only at hk
     subst hk
     refine PC.of_va (T := tb0) eqs_ok tb_ok rfl mixed Try.func8 rfl rfl (Nat.le_of_ble_eq_true rfl) ?_; intro Γ C WK LP fin h0 hW hC hB hR hLP hfin
     (try (conv => whnf)); (repeat ((first | refine qT ?_ | refine qF ?_ | refine qO ?_ | (with_reducible intro z hz); (first | (replace hz := hz (by omega); subst hz) | subst hz) | (refine CallV.mk _ (hC _ _ _ (PCw.of hFw)) (fun js hjs => ?_); subst hjs) | (refine CallV.mk _ (hC _ _ _ (PCw.of h1)) (fun js hjs => ?_); subst hjs) | (refine CallV.mk _ (hC _ _ _ (PCw.of h3)) (fun js hjs => ?_); subst hjs) | (refine CallV.mk _ (hC _ _ _ (PCw.of hA)) (fun js hjs => ?_); subst hjs)); (try (conv => whnf))))
     exact hfin _ (ILes.refl _)
   | some d =>
     rw [hf] at h1 hk
     dsimp only at hk
     obtain ⟨hk1, hk2, hk3, hk4⟩ := hk
     have hcd := h30.findCp hf
     rw [show oeiv (some d) = eiv d from rfl, eiv_eq d] at h1
     refine PC.of_va (T := tb0) eqs_ok tb_ok rfl mixed Try.func8 rfl rfl (Nat.le_of_ble_eq_true rfl) ?_; intro Γ C WK LP fin h0 hW hC hB hR hLP hfin
     (try (conv => whnf)); (repeat ((first | refine qT ?_ | refine qF ?_ | refine qO ?_ | (with_reducible intro z hz); (first | (replace hz := hz (by omega); subst hz) | subst hz) | (refine CallV.mk _ (hC _ _ _ (PCw.of hFw)) (fun js hjs => ?_); subst hjs) | (refine CallV.mk _ (hC _ _ _ (PCw.of h1)) (fun js hjs => ?_); subst hjs) | (refine CallV.mk _ (hC _ _ _ (PCw.of h3)) (fun js hjs => ?_); subst hjs)); (try (conv => whnf))))
     refine hLP _ _ _ Nat (fun j => ⟨[(0, .imm (.sl 4 (l.map gzv))), (1, .imm (.int .i64 n)), (2, .imm (.int .i64 i)), (7, .ptr 2 1 0), (9, .imm (.int .i64 (k : Nat))), (44, .imm (.int .i64 ((k : Nat) + 1))), (45, .imm (.int .i64 (j : Nat)))], [.dead 0, .dead 0, .box 1 (eiC d)]⟩) (fun j => j ≤ k + 1) (fun j => k + 1 - j) 0 (Nat.zero_le _) (qSL 3 rfl rfl) ?_
     intro j hj
     rcases Nat.lt_trichotomy j (k + 1) with hlt | rfl | hgt
     · refine (?_ : ∀ Q : Exit → AS → Prop, vcS _ _ _ _ _ _ _ (loopQA _ _ _ _ _ _ Q)) _; intro Q
       have hFj := (h30.take j).find n i
       rw [List.map_take] at hFj
       by_cases hjk : j < k
       · have hne := hk4 j hjk
         cases hfj : findL (Po.deeds (l.take j)) n i with
         | none =>
           rw [hfj] at hFj
           (try (conv => whnf)); (repeat ((first | refine qT ?_ | refine qF ?_ | refine qO ?_ | (with_reducible intro z hz); (first | (replace hz := hz (by omega); subst hz) | subst hz) | (refine CallV.mk _ (hC _ _ _ (PCw.of hFj)) (fun js hjs => ?_); subst hjs)); (try (conv => whnf))))
           exact ⟨j + 1, by omega, by dsimp only; omega, (qSL 3 rfl rfl)⟩
         | some e =>
           have hS := same28_pc e d ((h30.take j).findCp hfj) hcd
           rw [decide_eq_false (fun e' => hne (by rw [hfj, e']))] at hS
           rw [hfj] at hFj
           rw [eiv_eq e, eiv_eq d] at hS
           (try (conv => whnf)); (repeat ((first | refine qT ?_ | refine qF ?_ | refine qO ?_ | (with_reducible intro z hz); (first | (replace hz := hz (by omega); subst hz) | subst hz) | (refine CallV.mk _ (hC _ _ _ (PCw.of hFj)) (fun js hjs => ?_); subst hjs) | (refine CallV.mk _ (hC _ _ _ (PCw.of hS)) (fun js hjs => ?_); subst hjs)); (try (conv => whnf))))
           exact ⟨j + 1, by omega, by dsimp only; omega, (qSL 3 rfl rfl)⟩
       · obtain rfl : j = k := by omega
         have hS := same28_pc d d hcd hcd
         rw [decide_eq_true rfl, eiv_eq d] at hS
         rw [hk3] at hFj
         (try (conv => whnf)); (repeat ((first | refine qT ?_ | refine qF ?_ | refine qO ?_ | (with_reducible intro z hz); (first | (replace hz := hz (by omega); subst hz) | subst hz) | (refine CallV.mk _ (hC _ _ _ (PCw.of hFj)) (fun js hjs => ?_); subst hjs) | (refine CallV.mk _ (hC _ _ _ (PCw.of hS)) (fun js hjs => ?_); subst hjs)); (try (conv => whnf))))
         exact ⟨j + 1, by omega, by dsimp only; omega, (qSL 3 rfl rfl)⟩
     · (try (conv => whnf)); (repeat ((first | refine qT ?_ | refine qF ?_ | refine qO ?_ | (with_reducible intro z hz); (first | (replace hz := hz (by omega); subst hz) | subst hz)); (try (conv => whnf))))
       refine CallV.mk _ (hC _ _ _ (PCw.of (hA))) (fun js hjs => ?_); subst hjs
       (try (conv => whnf)); (repeat ((first | refine qT ?_ | refine qF ?_ | refine qO ?_ | (with_reducible intro z hz); (first | (replace hz := hz (by omega); subst hz) | subst hz)); (try (conv => whnf))))
       exact hfin _ (ILes.refl _)
     · omega
end Go.Proofs.Ytglkpmhamekpmaa.Po
namespace Go.Proofs.Ytglkpmhamekpmaa.Po
open Go Go.Pv Go.RowKit
set_option linter.unusedSimpArgs false
open Lab Lcs Go.Proofs.Ytglkpmhamekpmaa Go.Proofs.Ytglkpmhamekpmaa.Pu
set_option maxRecDepth 10000
end Go.Proofs.Ytglkpmhamekpmaa.Po
namespace Go.Proofs.Ytglkpmhamekpmaa.Po
open Go Go.Pv Go.RowKit
set_option linter.unusedSimpArgs false
open Lab Lcs Go.Proofs.Ytglkpmhamekpmaa Go.Proofs.Ytglkpmhamekpmaa.Pu
set_option maxRecDepth 10000
set_option maxHeartbeats 32000000
end Go.Proofs.Ytglkpmhamekpmaa.Po
namespace Go.Proofs.Ytglkpmhamekpmaa.Po
open Go Go.Pv Go.RowKit
set_option linter.unusedSimpArgs false
open Lab Lcs Go.Proofs.Ytglkpmhamekpmaa Go.Proofs.Ytglkpmhamekpmaa.Pu
set_option maxRecDepth 10000
set_option maxHeartbeats 32000000
open Go.Proofs (ltOf)
end Go.Proofs.Ytglkpmhamekpmaa.Po
