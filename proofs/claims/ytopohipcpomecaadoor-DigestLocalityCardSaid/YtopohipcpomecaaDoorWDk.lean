/-
  The reference's lists of IDs: Ids, Less, First.
-/
import Derived.Test.YtopohipcpomecaaDoorWDi
namespace Go.Proofs.YtopohipcpomecaaDoor.Pd
open Go Go.Pv Go.RowKit Go.Proofs.YtopohipcpomecaaDoor.Pu Go.Proofs.YtopohipcpomecaaDoor.Pb
set_option linter.unusedSimpArgs false
open Lab Lcs Go.Proofs.YtopohipcpomecaaDoor
set_option maxRecDepth 10000
set_option maxHeartbeats 16000000
theorem tqi_ids : tdOf Tryd.prog 36 = some ⟨false, 1, [.nil], .slice 26 3 24⟩ := by kernel_rfl
def tdi : List (TypeId × TD) := (36, ⟨false, 1, [.nil], .slice 26 3 24⟩) :: tdw
theorem tdi_ok : AllTd Tryd.prog tdi := ⟨tqi_ids, tdw_ok⟩
def tbi : Tb := ⟨Pv.look tdi, eqs, glD, fun _ => [], fun _ => false, fun _ => 0⟩
theorem tbi_ok : ∀ t d, tbi.td t = some d → tdOf Tryd.prog t = some d := Pv.look_ok tdi_ok
def lessT (p q : Trip) : Bool := if p.x ≠ q.x then decide (p.x < q.x) else if p.y ≠ q.y then decide (p.y < q.y) else decide (p.z < q.z)
theorem tr_eq {a b : Trip} (h : a = b) : eqC [.int .i64 a.x, .int .i64 a.y, .int .i64 a.z] [.int .i64 b.x, .int .i64 b.y, .int .i64 b.z] = true := by subst h; simp [eqC]
theorem tr_ne {a b : Trip} (h : a ≠ b) : ¬ eqC [.int .i64 a.x, .int .i64 a.y, .int .i64 a.z] [.int .i64 b.x, .int .i64 b.y, .int .i64 b.z] = true := fun e => h (by
 obtain ⟨x, y, z⟩ := a
 obtain ⟨x2, y2, z2⟩ := b
 simpa [eqC] using e)
theorem less_pc (p q : Trip) : PC Tryd.prog envH 58 [idv p, idv q] [.bool (lessT p q)] := by
 obtain ⟨a, b, c⟩ := p
 obtain ⟨x, y, z⟩ := q
 unfold idv idl lessT
 dsimp only
 by_cases h1 : a = x
 · subst h1
   rw [if_neg (by simp)]
   by_cases h2 : b = y
   · subst h2
     rw [if_neg (by simp)]
     by_cases h3 : c < z
     · rw [decide_eq_true h3]
       refine PC.of_va (T := tbi) eqs_ok tbi_ok rfl mixed Tryd.func58 rfl rfl (Nat.le_of_ble_eq_true rfl) ?_; intro Γ C WK LP fin h0 hW hC hB hR hLP hfin
       (try (conv => whnf)); (repeat ((first | refine qT ?_ | refine qF ?_ | refine qO ?_ | (with_reducible intro z hz); (first | (replace hz := hz (by omega); subst hz) | subst hz)); (try (conv => whnf))))
       exact hfin _ (ILes.refl _)
     · rw [decide_eq_false h3]
       refine PC.of_va (T := tbi) eqs_ok tbi_ok rfl mixed Tryd.func58 rfl rfl (Nat.le_of_ble_eq_true rfl) ?_; intro Γ C WK LP fin h0 hW hC hB hR hLP hfin
       (try (conv => whnf)); (repeat ((first | refine qT ?_ | refine qF ?_ | refine qO ?_ | (with_reducible intro z hz); (first | (replace hz := hz (by omega); subst hz) | subst hz)); (try (conv => whnf))))
       exact hfin _ (ILes.refl _)
   · rw [if_pos h2]
     by_cases h3 : b < y
     · rw [decide_eq_true h3]
       refine PC.of_va (T := tbi) eqs_ok tbi_ok rfl mixed Tryd.func58 rfl rfl (Nat.le_of_ble_eq_true rfl) ?_; intro Γ C WK LP fin h0 hW hC hB hR hLP hfin
       (try (conv => whnf)); (repeat ((first | refine qT ?_ | refine qF ?_ | refine qO ?_ | (with_reducible intro z hz); (first | (replace hz := hz (by omega); subst hz) | subst hz)); (try (conv => whnf))))
       exact hfin _ (ILes.refl _)
     · rw [decide_eq_false h3]
       refine PC.of_va (T := tbi) eqs_ok tbi_ok rfl mixed Tryd.func58 rfl rfl (Nat.le_of_ble_eq_true rfl) ?_; intro Γ C WK LP fin h0 hW hC hB hR hLP hfin
       (try (conv => whnf)); (repeat ((first | refine qT ?_ | refine qF ?_ | refine qO ?_ | (with_reducible intro z hz); (first | (replace hz := hz (by omega); subst hz) | subst hz)); (try (conv => whnf))))
       exact hfin _ (ILes.refl _)
 · rw [if_pos h1]
   by_cases h3 : a < x
   · rw [decide_eq_true h3]
     refine PC.of_va (T := tbi) eqs_ok tbi_ok rfl mixed Tryd.func58 rfl rfl (Nat.le_of_ble_eq_true rfl) ?_; intro Γ C WK LP fin h0 hW hC hB hR hLP hfin
     (try (conv => whnf)); (repeat ((first | refine qT ?_ | refine qF ?_ | refine qO ?_ | (with_reducible intro z hz); (first | (replace hz := hz (by omega); subst hz) | subst hz)); (try (conv => whnf))))
     exact hfin _ (ILes.refl _)
   · rw [decide_eq_false h3]
     refine PC.of_va (T := tbi) eqs_ok tbi_ok rfl mixed Tryd.func58 rfl rfl (Nat.le_of_ble_eq_true rfl) ?_; intro Γ C WK LP fin h0 hW hC hB hR hLP hfin
     (try (conv => whnf)); (repeat ((first | refine qT ?_ | refine qF ?_ | refine qO ?_ | (with_reducible intro z hz); (first | (replace hz := hz (by omega); subst hz) | subst hz)); (try (conv => whnf))))
     exact hfin _ (ILes.refl _)
theorem pre_ne {a b : List Trip} {k : Nat} {x y : Trip} (hx : a[k]? = some x) (hy : b[k]? = some y) (h : x ≠ y) : a ≠ b := fun e => by
 subst e
 rw [hx] at hy
 exact h (Option.some.inj hy)
theorem ids_pc (a b : List Trip) (_ha : a.length ≤ 1000000000) (_hb : b.length ≤ 1000000000) : PC Tryd.prog envH 19 [.sl 3 (a.map idv), .sl 3 (b.map idv)] [.bool (decide (a = b))] := by
 have h1 : (a.map idv).length = a.length := List.length_map _
 have h2 : (b.map idv).length = b.length := List.length_map _
 by_cases hl : a.length = b.length
 · refine PC.of_va (T := tbi) eqs_ok tbi_ok rfl mixed Tryd.func19 rfl rfl (Nat.le_of_ble_eq_true rfl) ?_; intro Γ C WK LP fin h0 hW hC hB hR hLP hfin
   (try (conv => whnf)); (repeat ((first | refine qT ?_ | refine qF ?_ | refine qO ?_ | (with_reducible intro z hz); (first | (replace hz := hz (by omega); subst hz) | subst hz)); (try (conv => whnf))))
   refine hLP _ _ _ Nat (fun k => ⟨[(0, .imm (.sl 3 (a.map idv))), (1, .imm (.sl 3 (b.map idv))), (5, .imm (.int .i64 (k : Nat)))], []⟩) (fun k => k ≤ a.length ∧ a.take k = b.take k) (fun k => a.length - k) 0 ⟨Nat.zero_le _, rfl⟩ (qSL 0 rfl rfl) ?_
   rintro k ⟨hk, hab⟩
   have hho := Nat.lt_or_ge k a.length
   cases hho with
   | inl hlt =>
     obtain ⟨x, hx⟩ : ∃ x, a[k]? = some x := ⟨a[k], List.getElem?_eq_getElem hlt⟩
     obtain ⟨y, hy⟩ : ∃ y, b[k]? = some y := ⟨b[k]'(by omega), List.getElem?_eq_getElem (by omega)⟩
     by_cases hxy : x = y
     · have hi := tr_eq hxy
       (try (conv => whnf)); (repeat ((first | refine qT ?_ | refine qF ?_ | refine qO ?_ | (with_reducible intro z hz); (first | (replace hz := hz (by omega); subst hz) | subst hz)); (try (conv => whnf))))
       refine Idx.mk k (idv x) _ rfl (by simp [hx]) rfl ?_
       (try (conv => whnf)); (repeat ((first | refine qT ?_ | refine qF ?_ | refine qO ?_ | (with_reducible intro z hz); (first | (replace hz := hz (by omega); subst hz) | subst hz)); (try (conv => whnf))))
       refine Idx.mk k (idv y) _ rfl (by simp [hy]) rfl ?_
       (try (conv => whnf)); (repeat ((first | refine qT ?_ | refine qF ?_ | refine qO ?_ | (with_reducible intro z hz); (first | (replace hz := hz (by omega); subst hz) | subst hz)); (try (conv => whnf))))
       exact ⟨k + 1, ⟨by omega, by rw [take_at hx, take_at hy, hab, hxy]⟩, by dsimp only; omega, (qSL 0 rfl rfl)⟩
     · have hi := tr_ne hxy
       (try (conv => whnf)); (repeat ((first | refine qT ?_ | refine qF ?_ | refine qO ?_ | (with_reducible intro z hz); (first | (replace hz := hz (by omega); subst hz) | subst hz)); (try (conv => whnf))))
       refine Idx.mk k (idv x) _ rfl (by simp [hx]) rfl ?_
       (try (conv => whnf)); (repeat ((first | refine qT ?_ | refine qF ?_ | refine qO ?_ | (with_reducible intro z hz); (first | (replace hz := hz (by omega); subst hz) | subst hz)); (try (conv => whnf))))
       refine Idx.mk k (idv y) _ rfl (by simp [hy]) rfl ?_
       (try (conv => whnf)); (repeat ((first | refine qT ?_ | refine qF ?_ | refine qO ?_ | (with_reducible intro z hz); (first | (replace hz := hz (by omega); subst hz) | subst hz)); (try (conv => whnf))))
       rw [decide_eq_false (pre_ne hx hy hxy)] at hfin
       exact hfin _ (ILes.refl _)
   | inr hge =>
     (try (conv => whnf)); (repeat ((first | refine qT ?_ | refine qF ?_ | refine qO ?_ | (with_reducible intro z hz); (first | (replace hz := hz (by omega); subst hz) | subst hz)); (try (conv => whnf))))
     obtain rfl : k = a.length := by omega
     rw [List.take_length, hl, List.take_length] at hab
     rw [decide_eq_true hab] at hfin
     exact hfin _ (ILes.refl _)
 · rw [decide_eq_false (fun e => hl (by rw [e]))]
   refine PC.of_va (T := tbi) eqs_ok tbi_ok rfl mixed Tryd.func19 rfl rfl (Nat.le_of_ble_eq_true rfl) ?_; intro Γ C WK LP fin h0 hW hC hB hR hLP hfin
   (try (conv => whnf)); (repeat ((first | refine qT ?_ | refine qF ?_ | refine qO ?_ | (with_reducible intro z hz); (first | (replace hz := hz (by omega); subst hz) | subst hz)); (try (conv => whnf))))
   exact hfin _ (ILes.refl _)
end Go.Proofs.YtopohipcpomecaaDoor.Pd
