/-
  Corpus: since when an item is known, by the reference.
-/
import Derived.Test.YtglkpmhamekpmaaWDg
namespace Go.Proofs.Ytglkpmhamekpmaa.Po
open Go Go.Pv Go.RowKit
set_option linter.unusedSimpArgs false
open Lab Lcs Go.Proofs.Ytglkpmhamekpmaa Go.Proofs.Ytglkpmhamekpmaa.Pu
set_option maxRecDepth 10000
set_option maxHeartbeats 32000000
theorem Few30.findRef {l : List Gz} {m : Nat} (hm : m ≤ 1000) (h : Few30 l m) (n i : Int) : PC Try.prog env0 15 [.int .i64 n, .int .i64 i, .sl 4 (l.map gzv)] [oeiv (findL (Po.deeds l) n i), .bool (findL (Po.deeds l) n i).isSome] :=
 findRef_pc (Po.deeds l) [.sl 4 (l.map gzv)] n i (by have := h.deedsLen; omega) (h.deeds hm) rfl
theorem Few30.since {l : List Gz} {m : Nat} (hm : m ≤ 1000) (h : Few30 l m) (n i : Int) (k : Nat) (hk : IsSince l n i k) : PC Try.prog env0 18 [.int .i64 n, .int .i64 i, .sl 4 (l.map gzv)] [.int .i64 (k : Nat)] := by
 have hl := h.len
 have hml : (l.map gzv).length = l.length := List.length_map _
 have hF := h.findRef hm n i
 unfold IsSince at hk
 cases hf : findL (Po.deeds l) n i with
 | none =>
   rw [hf] at hF hk
   dsimp only at hk
   subst hk
   refine PC.of_va (T := tbr0) eqs_ok tbr_ok rfl mixed Try.func18 rfl rfl (Nat.le_of_ble_eq_true rfl) ?_; intro Γ C WK LP fin h0 hW hC hB hR hLP hfin
   (try (conv => whnf)); (repeat ((first | refine qT ?_ | refine qF ?_ | refine qO ?_ | (with_reducible intro z hz); (first | (replace hz := hz (by omega); subst hz) | subst hz) | (refine CallV.mk _ (hC _ _ _ (PCw.of hF)) (fun js hjs => ?_); subst hjs)); (try (conv => whnf))))
   exact hfin _ (ILes.refl _)
 | some d =>
   rw [hf] at hF hk
   dsimp only at hk
   obtain ⟨hk1, hk2, hk3, hk4⟩ := hk
   have hcd := h.findCp hf
   refine PC.of_va (T := tbr0) eqs_ok tbr_ok rfl mixed Try.func18 rfl rfl (Nat.le_of_ble_eq_true rfl) ?_; intro Γ C WK LP fin h0 hW hC hB hR hLP hfin
   (try (conv => whnf)); (repeat ((first | refine qT ?_ | refine qF ?_ | refine qO ?_ | (with_reducible intro z hz); (first | (replace hz := hz (by omega); subst hz) | subst hz) | (refine CallV.mk _ (hC _ _ _ (PCw.of hF)) (fun js hjs => ?_); subst hjs)); (try (conv => whnf))))
   refine hLP _ _ _ Nat (fun j => ⟨[(0, .imm (.int .i64 n)), (1, .imm (.int .i64 i)), (2, .imm (.sl 4 (l.map gzv))), (7, .ptr 1 1 0), (9, .imm (.int .i64 (j : Nat)))], [.dead 0, .box 1 (eiC d)]⟩) (fun j => 1 ≤ j ∧ j ≤ k) (fun j => l.length + 1 - j) 1 ⟨Nat.le_refl _, hk1⟩ (qSL 2 rfl rfl) ?_
   rintro j ⟨hj1, hj2⟩
   have hFj := (h.take j).findRef hm n i
   rw [List.map_take] at hFj
   by_cases hjk : j < k
   · refine (?_ : ∀ Q : Exit → AS → Prop, vcS _ _ _ _ _ _ _ (loopQA _ _ _ _ _ _ Q)) _; intro Q
     have hne := hk4 j hjk
     cases hfj : findL (Po.deeds (l.take j)) n i with
     | none =>
       rw [hfj] at hFj
       (try (conv => whnf)); (repeat ((first | refine qT ?_ | refine qF ?_ | refine qO ?_ | (with_reducible intro z hz); (first | (replace hz := hz (by omega); subst hz) | subst hz) | (refine CallV.mk _ (hC _ _ _ (PCw.of hFj)) (fun js hjs => ?_); subst hjs)); (try (conv => whnf))))
       exact ⟨j + 1, ⟨by omega, by omega⟩, by dsimp only; omega, (qSL 2 rfl rfl)⟩
     | some e =>
       have hS := same28_pc e d ((h.take j).findCp hfj) hcd
       rw [decide_eq_false (fun e' => hne (by rw [hfj, e']))] at hS
       rw [hfj] at hFj
       rw [eiv_eq e, eiv_eq d] at hS
       (try (conv => whnf)); (repeat ((first | refine qT ?_ | refine qF ?_ | refine qO ?_ | (with_reducible intro z hz); (first | (replace hz := hz (by omega); subst hz) | subst hz) | (refine CallV.mk _ (hC _ _ _ (PCw.of hFj)) (fun js hjs => ?_); subst hjs) | (refine CallV.mk _ (hC _ _ _ (PCw.of hS)) (fun js hjs => ?_); subst hjs)); (try (conv => whnf))))
       exact ⟨j + 1, ⟨by omega, by omega⟩, by dsimp only; omega, (qSL 2 rfl rfl)⟩
   · obtain rfl : j = k := by omega
     have hS := same28_pc d d hcd hcd
     rw [decide_eq_true rfl, eiv_eq d] at hS
     rw [hk3] at hFj
     (try (conv => whnf)); (repeat ((first | refine qT ?_ | refine qF ?_ | refine qO ?_ | (with_reducible intro z hz); (first | (replace hz := hz (by omega); subst hz) | subst hz) | (refine CallV.mk _ (hC _ _ _ (PCw.of hFj)) (fun js hjs => ?_); subst hjs) | (refine CallV.mk _ (hC _ _ _ (PCw.of hS)) (fun js hjs => ?_); subst hjs)); (try (conv => whnf))))
     exact hfin _ (ILes.refl _)
end Go.Proofs.Ytglkpmhamekpmaa.Po
