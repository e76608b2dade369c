/-
  Corpus: items and acts as corrected.
-/
import Derived.Test.YtglkpmhamekpmaaWCg
namespace Go.Proofs.Ytglkpmhamekpmaa.Po
open Go Go.Pv Go.RowKit
set_option linter.unusedSimpArgs false
open Lab Lcs Go.Proofs.Ytglkpmhamekpmaa Go.Proofs.Ytglkpmhamekpmaa.Pu
set_option maxRecDepth 10000
set_option maxHeartbeats 32000000
def corF (m : CorM) (n i : Int) (x : It) : It := match lookL m (n, i) with
 | some e => if chB x.kind = true then e.it.bys.headD x else x
 | none => x
def OkC' (m : CorM) : Prop := ∀ n i e, lookL m (n, i) = some e → ∃ y r, e.it.bys = y :: r
theorem corItem_pcb (r : Rg) (a : Ac) (i : Nat) (x : It) (hx : a.items[i]? = some x) (hm : OkC' r.cors) (_ : a.items.length ≤ 1000000) :
   PCB Try.prog env0 52 [.agg [.row 0 1, .row 1 1, .row 2 1], .imm (acv a), .imm (.int .i64 (i : Nat))] (rgB r) [.imm (itv (corF r.cors a.num i x))] (rgB r) := by
 have hk := look_cor r.cors a.num (i : Nat)
 have hA := isAm_pc x.kind
 have hlt := (List.getElem?_eq_some_iff.1 hx).1
 have hmi : (a.items.map itv).length = a.items.length := List.length_map _
 unfold acv
 cases hl : lookL r.cors (a.num, (i : Int)) with
 | none =>
   rw [hl] at hk
   have hc : corF r.cors a.num i x = x := by unfold corF; rw [hl]
   rw [hc]
   rw [itv_eq x]
   refine PCB.of_va (T := tbr0) eqs_ok tbr_ok rfl mixed Try.func52 rfl rfl rfl (Nat.le_of_ble_eq_true rfl) rfl ?_; intro Γ C WK LP fin h0 hk0 hW hC hB hR hLP hfin
   have h03 : Γ.n0 = 3 := h0
   (try (conv => whnf)); (repeat ((first | refine qT ?_ | refine qF ?_ | refine qO ?_ | (with_reducible intro z hz); (first | (replace hz := hz (by omega); subst hz) | subst hz)); (try (conv => whnf))))
   refine Idx.mk i (itv x) _ rfl (by simp [hx]) (by rw [itv_eq x]) ?_
   (try (conv => whnf)); (repeat ((first | refine qT ?_ | refine qF ?_ | refine qO ?_ | (with_reducible intro z hz); (first | (replace hz := hz (by omega); subst hz) | subst hz)); (try (conv => whnf))))
   refine LookK.mk eivZ false (by rw [hk]; rfl) (by rw [hk]; rfl) ?_
   (try (conv => whnf)); (repeat ((first | refine qT ?_ | refine qF ?_ | refine qO ?_ | (with_reducible intro z hz); (first | (replace hz := hz (by omega); subst hz) | subst hz)); (try (conv => whnf))))
   exact hfin _ (qSL 3 rfl rfl)
 | some e =>
   rw [hl] at hk
   obtain ⟨y, q, hy⟩ := hm _ _ _ hl
   have hy1 : (e.it.bys.map itv).length = q.length + 1 := by rw [hy]; simp
   cases hb : chB x.kind with
   | true =>
     have hc : corF r.cors a.num i x = y := by unfold corF; rw [hl]; simp [hb, hy]
     rw [hc]
     rw [hb] at hA
     rw [itv_eq y]
     refine PCB.of_va (T := tbr0) eqs_ok tbr_ok rfl mixed Try.func52 rfl rfl rfl (Nat.le_of_ble_eq_true rfl) rfl ?_; intro Γ C WK LP fin h0 hk0 hW hC hB hR hLP hfin
     have h03 : Γ.n0 = 3 := h0
     (try (conv => whnf)); (repeat ((first | refine qT ?_ | refine qF ?_ | refine qO ?_ | (with_reducible intro z hz); (first | (replace hz := hz (by omega); subst hz) | subst hz)); (try (conv => whnf))))
     refine Idx.mk i (itv x) _ rfl (by simp [hx]) (by rw [itv_eq x]) ?_
     (try (conv => whnf)); (repeat ((first | refine qT ?_ | refine qF ?_ | refine qO ?_ | (with_reducible intro z hz); (first | (replace hz := hz (by omega); subst hz) | subst hz)); (try (conv => whnf))))
     refine LookK.mk (eiv e) true (by rw [hk]; rfl) (by rw [hk]; rfl) ?_
     rw [eiv_eq e]
     (try (conv => whnf)); (repeat ((first | refine qT ?_ | refine qF ?_ | refine qO ?_ | (with_reducible intro z hz); (first | (replace hz := hz (by omega); subst hz) | subst hz) | (refine CallV.mk _ (hC _ _ _ (PCw.of hA)) (fun js hjs => ?_); subst hjs)); (try (conv => whnf))))
     refine Idx.mk 0 (itv y) _ rfl (by rw [hy]; rfl) (by rw [itv_eq y]) ?_
     (try (conv => whnf)); (repeat ((first | refine qT ?_ | refine qF ?_ | refine qO ?_ | (with_reducible intro z hz); (first | (replace hz := hz (by omega); subst hz) | subst hz)); (try (conv => whnf))))
     exact hfin _ (qSL 3 rfl rfl)
   | false =>
     have hc : corF r.cors a.num i x = x := by unfold corF; rw [hl]; simp [hb]
     rw [hc]
     rw [hb] at hA
     rw [itv_eq x]
     refine PCB.of_va (T := tbr0) eqs_ok tbr_ok rfl mixed Try.func52 rfl rfl rfl (Nat.le_of_ble_eq_true rfl) rfl ?_; intro Γ C WK LP fin h0 hk0 hW hC hB hR hLP hfin
     have h03 : Γ.n0 = 3 := h0
     (try (conv => whnf)); (repeat ((first | refine qT ?_ | refine qF ?_ | refine qO ?_ | (with_reducible intro z hz); (first | (replace hz := hz (by omega); subst hz) | subst hz)); (try (conv => whnf))))
     refine Idx.mk i (itv x) _ rfl (by simp [hx]) (by rw [itv_eq x]) ?_
     (try (conv => whnf)); (repeat ((first | refine qT ?_ | refine qF ?_ | refine qO ?_ | (with_reducible intro z hz); (first | (replace hz := hz (by omega); subst hz) | subst hz)); (try (conv => whnf))))
     refine LookK.mk (eiv e) true (by rw [hk]; rfl) (by rw [hk]; rfl) ?_
     rw [eiv_eq e]
     (try (conv => whnf)); (repeat ((first | refine qT ?_ | refine qF ?_ | refine qO ?_ | (with_reducible intro z hz); (first | (replace hz := hz (by omega); subst hz) | subst hz) | (refine CallV.mk _ (hC _ _ _ (PCw.of hA)) (fun js hjs => ?_); subst hjs)); (try (conv => whnf))))
     exact hfin _ (qSL 3 rfl rfl)
end Go.Proofs.Ytglkpmhamekpmaa.Po
