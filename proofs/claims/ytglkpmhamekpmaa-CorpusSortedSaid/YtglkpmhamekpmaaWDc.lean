/-
  Corpus: the item of a reference, by the program.
-/
import Derived.Test.YtglkpmhamekpmaaWDb
namespace Go.Proofs.Ytglkpmhamekpmaa.Po
open Go Go.Pv Go.RowKit
set_option linter.unusedSimpArgs false
open Lab Lcs Go.Proofs.Ytglkpmhamekpmaa Go.Proofs.Ytglkpmhamekpmaa.Pu
set_option maxRecDepth 10000
set_option maxHeartbeats 32000000
def findR (r : Rg) (n i : Int) : Option Ei := match lookL r.acts n with
 | none => none
 | some a => if 0 ≤ i then (match a.items[i.toNat]? with
   | none => none
   | some x => some ⟨n, i, a.day, corF r.cors a.num i x⟩) else none
def oeiv : Option Ei → IV
 | none => eivZ
 | some e => eiv e
theorem find_pcb (r : Rg) (n i : Int) (hm : OkC' r.cors) (hs : ∀ a, lookL r.acts n = some a → a.items.length ≤ 1000000) :
   PCB Try.prog env0 32 [.agg [.row 0 1, .row 1 1, .row 2 1], .imm (.int .i64 n), .imm (.int .i64 i)] (rgB r) [.imm (oeiv (findR r n i)), .imm (.bool (findR r n i).isSome)] (rgB r) := by
 have hk := look_act r.acts n
 cases hl : lookL r.acts n with
 | none =>
   rw [hl] at hk
   have hf : findR r n i = none := by unfold findR; rw [hl]
   rw [hf]
   refine PCB.of_va (T := tbr0) eqs_ok tbr_ok rfl mixed Try.func32 rfl rfl rfl (Nat.le_of_ble_eq_true rfl) rfl ?_; intro Γ C WK LP fin h0 hk0 hW hC hB hR hLP hfin
   have h03 : Γ.n0 = 3 := h0
   (try (conv => whnf)); (repeat ((first | refine qT ?_ | refine qF ?_ | refine qO ?_ | (with_reducible intro z hz); (first | (replace hz := hz (by omega); subst hz) | subst hz)); (try (conv => whnf))))
   refine LookK.mk acvZ false (by rw [hk]; rfl) (by rw [hk]; rfl) ?_
   (try (conv => whnf)); (repeat ((first | refine qT ?_ | refine qF ?_ | refine qO ?_ | (with_reducible intro z hz); (first | (replace hz := hz (by omega); subst hz) | subst hz)); (try (conv => whnf))))
   exact hfin _ (qSL 3 rfl rfl)
 | some a =>
   rw [hl] at hk
   have hsa := hs a hl
   have hmi : (a.items.map itv).length = a.items.length := List.length_map _
   by_cases h0i : 0 ≤ i
   rotate_left
   · have hf : findR r n i = none := by unfold findR; rw [hl]; exact if_neg h0i
     rw [hf]
     refine PCB.of_va (T := tbr0) eqs_ok tbr_ok rfl mixed Try.func32 rfl rfl rfl (Nat.le_of_ble_eq_true rfl) rfl ?_; intro Γ C WK LP fin h0 hk0 hW hC hB hR hLP hfin
     have h03 : Γ.n0 = 3 := h0
     (try (conv => whnf)); (repeat ((first | refine qT ?_ | refine qF ?_ | refine qO ?_ | (with_reducible intro z hz); (first | (replace hz := hz (by omega); subst hz) | subst hz)); (try (conv => whnf))))
     refine LookK.mk (acv a) true (by rw [hk]; rfl) (by rw [hk]; rfl) ?_
     unfold acv
     (try (conv => whnf)); (repeat ((first | refine qT ?_ | refine qF ?_ | refine qO ?_ | (with_reducible intro z hz); (first | (replace hz := hz (by omega); subst hz) | subst hz)); (try (conv => whnf))))
     exact hfin _ (qSL 3 rfl rfl)
   obtain ⟨k, rfl⟩ := Int.eq_ofNat_of_zero_le h0i
   by_cases hlt : k < a.items.length
   rotate_left
   · have hf : findR r n (k : Nat) = none := by
       unfold findR; rw [hl]; dsimp only
       rw [if_pos h0i, Int.toNat_natCast, List.getElem?_eq_none (by omega)]
     rw [hf]
     refine PCB.of_va (T := tbr0) eqs_ok tbr_ok rfl mixed Try.func32 rfl rfl rfl (Nat.le_of_ble_eq_true rfl) rfl ?_; intro Γ C WK LP fin h0 hk0 hW hC hB hR hLP hfin
     have h03 : Γ.n0 = 3 := h0
     (try (conv => whnf)); (repeat ((first | refine qT ?_ | refine qF ?_ | refine qO ?_ | (with_reducible intro z hz); (first | (replace hz := hz (by omega); subst hz) | subst hz)); (try (conv => whnf))))
     refine LookK.mk (acv a) true (by rw [hk]; rfl) (by rw [hk]; rfl) ?_
     unfold acv
     (try (conv => whnf)); (repeat ((first | refine qT ?_ | refine qF ?_ | refine qO ?_ | (with_reducible intro z hz); (first | (replace hz := hz (by omega); subst hz) | subst hz)); (try (conv => whnf))))
     exact hfin _ (qSL 3 rfl rfl)
   obtain ⟨x, hx⟩ : ∃ x, a.items[k]? = some x := ⟨a.items[k], List.getElem?_eq_getElem hlt⟩
   have hf : findR r n (k : Nat) = some ⟨n, (k : Nat), a.day, corF r.cors a.num (k : Nat) x⟩ := by
     unfold findR; rw [hl]; dsimp only
     rw [if_pos h0i, Int.toNat_natCast, hx]
   have hCo := corItem_pcb r a k x hx hm hsa
   rw [hf]
   generalize corF r.cors a.num (k : Nat) x = y at *
   unfold acv at hCo
   refine PCB.of_va (T := tbr0) eqs_ok tbr_ok rfl mixed Try.func32 rfl rfl rfl (Nat.le_of_ble_eq_true rfl) rfl ?_; intro Γ C WK LP fin h0 hk0 hW hC hB hR hLP hfin
   have h03 : Γ.n0 = 3 := h0
   (try (conv => whnf)); (repeat ((first | refine qT ?_ | refine qF ?_ | refine qO ?_ | (with_reducible intro z hz); (first | (replace hz := hz (by omega); subst hz) | subst hz)); (try (conv => whnf))))
   refine LookK.mk (acv a) true (by rw [hk]; rfl) (by rw [hk]; rfl) ?_
   unfold acv
   (try (conv => whnf)); (repeat ((first | refine qT ?_ | refine qF ?_ | refine qO ?_ | (with_reducible intro z hz); (first | (replace hz := hz (by omega); subst hz) | subst hz)); (try (conv => whnf))))
   refine CallB.mk ([.imm (itv y)]) (rgC r) (hB _ _ _ _ _ (hCo)) ?_
   rw [itv_eq y]
   (try (conv => whnf)); (repeat ((first | refine qT ?_ | refine qF ?_ | refine qO ?_ | (with_reducible intro z hz); (first | (replace hz := hz (by omega); subst hz) | subst hz)); (try (conv => whnf))))
   exact hfin _ (qSL 3 rfl rfl)
end Go.Proofs.Ytglkpmhamekpmaa.Po
