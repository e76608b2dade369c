/-
  The reference's operations on sets of days.
-/
import Derived.Test.YtmgjpmjmondplaaWAd
namespace Go.Proofs.Ytmgjpmjmondplaa.Pe
open Go Go.Pv Go.RowKit
set_option linter.unusedSimpArgs false
open Spans Rm
set_option maxRecDepth 10000
set_option maxHeartbeats 16000000
theorem canon_ext {P Q : Int → Bool} (h : ∀ d, 0 ≤ d → d ≤ 1048576 → P d = Q d) : canon P = canon Q := by
 by_cases hP : ∃ R, Is R P
 · obtain ⟨R, hR⟩ := hP
   rw [← canon_is hR, ← canon_is (hR.congr h)]
 · have hQ : ¬ ∃ R, Is R Q := fun ⟨R, hR⟩ => hP ⟨R, hR.congr fun d h0 h1 => (h d h0 h1).symm⟩
   unfold canon
   rw [dif_neg hP, dif_neg hQ]
theorem PC.arg {P : Program} {X : Env} {f : FuncId} {args args' res : List IV} (h : PC P X f args' res) (hl : ILes args args') : PC P X f args res :=
 ⟨h.1, fun Q w vs hQ hg hX hvs => h.2 Q w vs hQ hg hX (hl.rep hvs)⟩
theorem sp_eq {a b : Sp} (h : a = b) : eqC [.int .i64 a.1, .int .i64 a.2] [.int .i64 b.1, .int .i64 b.2] = true := by subst h; simp [eqC]
theorem sp_ne {a b : Sp} (h : a ≠ b) : ¬ eqC [.int .i64 a.1, .int .i64 a.2] [.int .i64 b.1, .int .i64 b.2] = true := fun e => h (by
 obtain ⟨x, y⟩ := a
 obtain ⟨x2, y2⟩ := b
 simpa [eqC] using e)
theorem pre_ne {α : Type} {a b : List α} {k : Nat} {x y : α} (hx : a[k]? = some x) (hy : b[k]? = some y) (h : x ≠ y) : a ≠ b := fun e => by
 subst e
 rw [hx] at hy
 exact h (Option.some.inj hy)
theorem same_pc (a b : List Sp) (_ha : a.length ≤ 1000000000) (_hb : b.length ≤ 1000000000) : PC Try.prog env0 16 [.sl 2 (a.map spv), .sl 2 (b.map spv)] [.bool (decide (a = b))] := by
 have h1 : (a.map spv).length = a.length := List.length_map _
 have h2 : (b.map spv).length = b.length := List.length_map _
 by_cases hl : a.length = b.length
 · refine PC.of_va (T := tb0) eqs_ok tb_ok rfl mixed Try.func16 rfl rfl (Nat.le_of_ble_eq_true rfl) ?_; intro Γ C WK LP fin h0 hW hC hB hR hLP hfin
   (try (conv => whnf)); (repeat ((first | refine qT ?_ | refine qF ?_ | refine qO ?_ | (with_reducible intro z hz); (first | (replace hz := hz (by omega); subst hz) | subst hz)); (try (conv => whnf))))
   refine hLP _ _ _ Nat (fun k => ⟨[(0, .imm (.sl 2 (a.map spv))), (1, .imm (.sl 2 (b.map spv))), (5, .imm (.int .i64 (k : Nat)))], []⟩) (fun k => k ≤ a.length ∧ a.take k = b.take k) (fun k => a.length - k) 0 ⟨Nat.zero_le _, rfl⟩ (qSL 0 rfl rfl) ?_
   rintro k ⟨hk, hab⟩
   have hho := Nat.lt_or_ge k a.length
   cases hho with
   | inl hlt =>
     obtain ⟨x, hx⟩ : ∃ x, a[k]? = some x := ⟨a[k], List.getElem?_eq_getElem hlt⟩
     obtain ⟨y, hy⟩ : ∃ y, b[k]? = some y := ⟨b[k]'(by omega), List.getElem?_eq_getElem (by omega)⟩
     by_cases hxy : x = y
     · have hi := sp_eq hxy
       (try (conv => whnf)); (repeat ((first | refine qT ?_ | refine qF ?_ | refine qO ?_ | (with_reducible intro z hz); (first | (replace hz := hz (by omega); subst hz) | subst hz)); (try (conv => whnf))))
       refine Idx.mk k (spv x) _ rfl (by simp [hx]) rfl ?_
       (try (conv => whnf)); (repeat ((first | refine qT ?_ | refine qF ?_ | refine qO ?_ | (with_reducible intro z hz); (first | (replace hz := hz (by omega); subst hz) | subst hz)); (try (conv => whnf))))
       refine Idx.mk k (spv y) _ rfl (by simp [hy]) rfl ?_
       (try (conv => whnf)); (repeat ((first | refine qT ?_ | refine qF ?_ | refine qO ?_ | (with_reducible intro z hz); (first | (replace hz := hz (by omega); subst hz) | subst hz)); (try (conv => whnf))))
       exact ⟨k + 1, ⟨by omega, by rw [take_at hx, take_at hy, hab, hxy]⟩, by dsimp only; omega, (qSL 0 rfl rfl)⟩
     · have hi := sp_ne hxy
       (try (conv => whnf)); (repeat ((first | refine qT ?_ | refine qF ?_ | refine qO ?_ | (with_reducible intro z hz); (first | (replace hz := hz (by omega); subst hz) | subst hz)); (try (conv => whnf))))
       refine Idx.mk k (spv x) _ rfl (by simp [hx]) rfl ?_
       (try (conv => whnf)); (repeat ((first | refine qT ?_ | refine qF ?_ | refine qO ?_ | (with_reducible intro z hz); (first | (replace hz := hz (by omega); subst hz) | subst hz)); (try (conv => whnf))))
       refine Idx.mk k (spv y) _ rfl (by simp [hy]) rfl ?_
       (try (conv => whnf)); (repeat ((first | refine qT ?_ | refine qF ?_ | refine qO ?_ | (with_reducible intro z hz); (first | (replace hz := hz (by omega); subst hz) | subst hz)); (try (conv => whnf))))
       rw [decide_eq_false (pre_ne hx hy hxy)] at hfin
       exact hfin _ (ILes.refl _)
   | inr hge =>
     (try (conv => whnf)); (repeat ((first | refine qT ?_ | refine qF ?_ | refine qO ?_ | (with_reducible intro z hz); (first | (replace hz := hz (by omega); subst hz) | subst hz)); (try (conv => whnf))))
     obtain rfl : k = a.length := by omega
     rw [List.take_length, hl, List.take_length] at hab
     rw [decide_eq_true hab] at hfin
     exact hfin _ (ILes.refl _)
 · rw [decide_eq_false (fun e => hl (by rw [e]))]
   refine PC.of_va (T := tb0) eqs_ok tb_ok rfl mixed Try.func16 rfl rfl (Nat.le_of_ble_eq_true rfl) ?_; intro Γ C WK LP fin h0 hW hC hB hR hLP hfin
   (try (conv => whnf)); (repeat ((first | refine qT ?_ | refine qF ?_ | refine qO ?_ | (with_reducible intro z hz); (first | (replace hz := hz (by omega); subst hz) | subst hz)); (try (conv => whnf))))
   exact hfin _ (ILes.refl _)
end Go.Proofs.Ytmgjpmjmondplaa.Pe
