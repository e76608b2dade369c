/-
  The reference's operations on sets of days.
-/
import Derived.Test.YtmgjpmjmondplaaWAd
namespace Go.Proofs.Ytmgjpmjmondplaa.Pe
open Go Go.Pv Go.RowKit
set_option linter.unusedSimpArgs false
open Spans Rm
set_option maxRecDepth 10000
set_option maxHeartbeats 16000000
theorem both_len (P : Int → Bool) (zs : List Int) : ∀ k, (bothL P zs k).length ≤ k
 | 0 => by simp [bothL]
 | k + 1 => by
   have ih := both_len P zs k
   unfold bothL
   split
   · have := apS_len (bothL P zs k) (el zs k, nx zs k); omega
   · omega
theorem both_is2 (h : Int) (La Lb : List Sp) : bothL (opP h La Lb) (pts (La ++ Lb)) (pts (La ++ Lb)).length = canon (opP h La Lb) ∧ Is (canon (opP h La Lb)) (opP h La Lb) := by
 have e := canon_is (both_is h La Lb)
 exact ⟨e, e ▸ both_is h La Lb⟩
theorem both0_pc (h : Int) (hh : h = 0 ∨ h = 1 ∨ h = 2) (La Lb : List Sp) (ha : La.length ≤ 10000) (hb : Lb.length ≤ 10000) : PC Try.prog env0 39 [.int .i64 h, .sl 2 (La.map spv), .sl 2 (Lb.map spv)] [.sl 2 ((bothL (opP h La Lb) (pts (La ++ Lb)) (pts (La ++ Lb)).length).map spv)] := by
 have hma : (La.map spv).length = La.length := List.length_map _
 have hmb : (Lb.map spv).length = Lb.length := List.length_map _
 have hP := points_pc (La ++ Lb) (by rw [List.length_append]; omega)
 have hzl := pts_len (La ++ Lb)
 rw [List.length_append] at hzl
 have hzo := pts_ok (La ++ Lb)
 generalize hzs : pts (La ++ Lb) = zs at *
 have hC0 : ∀ d, PC Try.prog env0 45 [.int .i64 h, .sl 2 (La.map spv), .sl 2 (Lb.map spv), .int .i64 d] [.bool (opP h La Lb d)] := fun d => counts_pc h hh La Lb d (by omega) (by omega)
 have hinv : ∀ k, k ≤ zs.length → EndLe (bothL (opP h La Lb) zs k) (bd zs k) := by
   subst hzs
   exact fun k hk => (both_inv (opP h La Lb) (pts (La ++ Lb)) (pts_ok _) (fun k hk d h0 h1 => op_const h La Lb k hk d h0 h1) k hk).2.1
 generalize opP h La Lb = P at *
 refine PC.of_va (T := tb0) eqs_ok tb_ok rfl mixed Try.func39 rfl rfl (Nat.le_of_ble_eq_true rfl) ?_; intro Γ C WK LP fin h0 hW hC hB hR hLP hfin
 (try (conv => whnf)); (repeat ((first | refine qT ?_ | refine qF ?_ | refine qO ?_ | (with_reducible intro z hz); (first | (replace hz := hz (by omega); subst hz) | subst hz)); (try (conv => whnf))))
 refine Imms.mk ((La ++ Lb).map spv) (by simp) ?_
 (try (conv => whnf)); (repeat ((first | refine qT ?_ | refine qF ?_ | refine qO ?_ | (with_reducible intro z hz); (first | (replace hz := hz (by omega); subst hz) | subst hz) | (refine CallV.mk _ (hC _ _ _ (PCw.of hP)) (fun js hjs => ?_); subst hjs)); (try (conv => whnf))))
 have hne : ∀ x : List Sp, ((x.map spv).map PV.imm).length = x.length := fun x => by simp
 refine hLP _ _ _ Nat (fun k => ⟨[(0, .imm (.int .i64 h)), (1, .imm (.sl 2 (La.map spv))), (2, .imm (.sl 2 (Lb.map spv))), (7, .imm (.sl 1 (zs.map zv))), (8, .row 4 1), (9, .imm (.int .i64 (k : Nat)))], [.dead 3, .dead 0, .dead 0, .dead 0, .row 61 2 1 (((bothL P zs k).map spv).map .imm)]⟩) (fun k => k ≤ zs.length) (fun k => zs.length - k) 0 (Nat.zero_le _) (qSL 5 rfl rfl) ?_
 intro k hk
 have hho := Nat.lt_or_ge k zs.length
 cases hho with
 | inl hlt =>
   obtain ⟨z, hx⟩ : ∃ z, zs[k]? = some z := ⟨zs[k], List.getElem?_eq_getElem hlt⟩
   have he := el_at hx
   have hPz := hC0 z
   have hend := hinv k hk
   have hbk : bothL P zs (k + 1) = if P (el zs k) = true then apS (bothL P zs k) (el zs k, nx zs k) else bothL P zs k := rfl
   have hlen := both_len P zs k
   have hpr := (pt_range hzo hlt).2.1
   rw [bd, if_pos hlt, he] at hend
   rw [he] at hbk hpr
   rw [nx] at hbk hpr
   cases hb : P z with
   | false =>
     rw [hb] at hPz
     rw [hb, if_neg (by simp)] at hbk
     by_cases h1 : k + 1 < zs.length
     · obtain ⟨z2, hx2⟩ : ∃ z, zs[k + 1]? = some z := ⟨zs[k + 1], List.getElem?_eq_getElem h1⟩
       (try (conv => whnf)); (repeat ((first | refine qT ?_ | refine qF ?_ | refine qO ?_ | (with_reducible intro z hz); (first | (replace hz := hz (by omega); subst hz) | subst hz)); (try (conv => whnf))))
       refine Idx.mk (k + 1) (zv z2) _ (by omega) (by simp [hx2]) rfl ?_
       (try (conv => whnf)); (repeat ((first | refine qT ?_ | refine qF ?_ | refine qO ?_ | (with_reducible intro z hz); (first | (replace hz := hz (by omega); subst hz) | subst hz)); (try (conv => whnf))))
       refine Idx.mk k (zv z) _ rfl (by simp [hx]) rfl ?_
       (try (conv => whnf)); (repeat ((first | refine qT ?_ | refine qF ?_ | refine qO ?_ | (with_reducible intro z hz); (first | (replace hz := hz (by omega); subst hz) | subst hz) | (refine CallV.mk _ (hC _ _ _ (PCw.of hPz)) (fun js hjs => ?_); subst hjs)); (try (conv => whnf))))
       refine ⟨k + 1, by omega, by dsimp only; omega, ?_⟩
       dsimp only []
       rw [hbk]
       exact (qSL 5 rfl rfl)
     · (try (conv => whnf)); (repeat ((first | refine qT ?_ | refine qF ?_ | refine qO ?_ | (with_reducible intro z hz); (first | (replace hz := hz (by omega); subst hz) | subst hz)); (try (conv => whnf))))
       refine Idx.mk k (zv z) _ rfl (by simp [hx]) rfl ?_
       (try (conv => whnf)); (repeat ((first | refine qT ?_ | refine qF ?_ | refine qO ?_ | (with_reducible intro z hz); (first | (replace hz := hz (by omega); subst hz) | subst hz) | (refine CallV.mk _ (hC _ _ _ (PCw.of hPz)) (fun js hjs => ?_); subst hjs)); (try (conv => whnf))))
       refine ⟨k + 1, by omega, by dsimp only; omega, ?_⟩
       dsimp only []
       rw [hbk]
       exact (qSL 5 rfl rfl)
   | true =>
     rw [hb] at hPz
     rw [hb, if_pos rfl] at hbk
     generalize bothL P zs k = R at *
     rcases List.eq_nil_or_concat R with rfl | ⟨R0, ⟨x, y⟩, rfl⟩
     · rw [apS_nil] at hbk
       by_cases h1 : k + 1 < zs.length
       · obtain ⟨z2, hx2⟩ : ∃ z, zs[k + 1]? = some z := ⟨zs[k + 1], List.getElem?_eq_getElem h1⟩
         rw [if_pos h1, el_at hx2] at hbk
         (try (conv => whnf)); (repeat ((first | refine qT ?_ | refine qF ?_ | refine qO ?_ | (with_reducible intro z hz); (first | (replace hz := hz (by omega); subst hz) | subst hz)); (try (conv => whnf))))
         refine Idx.mk (k + 1) (zv z2) _ (by omega) (by simp [hx2]) rfl ?_
         (try (conv => whnf)); (repeat ((first | refine qT ?_ | refine qF ?_ | refine qO ?_ | (with_reducible intro z hz); (first | (replace hz := hz (by omega); subst hz) | subst hz)); (try (conv => whnf))))
         refine Idx.mk k (zv z) _ rfl (by simp [hx]) rfl ?_
         (try (conv => whnf)); (repeat ((first | refine qT ?_ | refine qF ?_ | refine qO ?_ | (with_reducible intro z hz); (first | (replace hz := hz (by omega); subst hz) | subst hz) | (refine CallV.mk _ (hC _ _ _ (PCw.of hPz)) (fun js hjs => ?_); subst hjs)); (try (conv => whnf))))
         refine Idx.mk k (zv z) _ rfl (by simp [hx]) rfl ?_
         (try (conv => whnf)); (repeat ((first | refine qT ?_ | refine qF ?_ | refine qO ?_ | (with_reducible intro z hz); (first | (replace hz := hz (by omega); subst hz) | subst hz)); (try (conv => whnf))))
         refine ⟨k + 1, by omega, by dsimp only; omega, ?_⟩
         dsimp only []
         rw [hbk]
         exact ((WeakA.row 4 ((([] ++ [(z, z2)]).map spv).map .imm) rfl (by simp [spv]))).trans ((WeakA.renew 4 1 rfl (by first | omega | (intro _; rw [hk0 _ _ rfl]; exact Nat.le_of_ble_eq_true rfl)) (by repeat (first | exact trivial | refine And.intro (rgL_imms _ _ _ _) ?_ | refine And.intro rfl ?_))).trans (qSL 5 rfl rfl))
       · rw [if_neg h1] at hbk
         (try (conv => whnf)); (repeat ((first | refine qT ?_ | refine qF ?_ | refine qO ?_ | (with_reducible intro z hz); (first | (replace hz := hz (by omega); subst hz) | subst hz)); (try (conv => whnf))))
         refine Idx.mk k (zv z) _ rfl (by simp [hx]) rfl ?_
         (try (conv => whnf)); (repeat ((first | refine qT ?_ | refine qF ?_ | refine qO ?_ | (with_reducible intro z hz); (first | (replace hz := hz (by omega); subst hz) | subst hz) | (refine CallV.mk _ (hC _ _ _ (PCw.of hPz)) (fun js hjs => ?_); subst hjs)); (try (conv => whnf))))
         refine Idx.mk k (zv z) _ rfl (by simp [hx]) rfl ?_
         (try (conv => whnf)); (repeat ((first | refine qT ?_ | refine qF ?_ | refine qO ?_ | (with_reducible intro z hz); (first | (replace hz := hz (by omega); subst hz) | subst hz)); (try (conv => whnf))))
         refine ⟨k + 1, by omega, by dsimp only; omega, ?_⟩
         dsimp only []
         rw [hbk]
         exact ((WeakA.row 4 ((([] ++ [((z, 1048577) : Sp)]).map spv).map .imm) rfl (by simp [spv]))).trans ((WeakA.renew 4 1 rfl (by first | omega | (intro _; rw [hk0 _ _ rfl]; exact Nat.le_of_ble_eq_true rfl)) (by repeat (first | exact trivial | refine And.intro (rgL_imms _ _ _ _) ?_ | refine And.intro rfl ?_))).trans (qSL 5 rfl rfl))
     · rw [List.concat_eq_append] at *
       have hyz : y ≤ z := hend (x, y) (by simp)
       rw [apS_snoc] at hbk
       have hn0 := hne (R0 ++ [(x, y)])
       rw [List.length_append, List.length_singleton] at hn0 hlen
       by_cases hlt2 : y < z
       · rw [if_pos hlt2] at hbk
         by_cases h1 : k + 1 < zs.length
         · obtain ⟨z2, hx2⟩ : ∃ z, zs[k + 1]? = some z := ⟨zs[k + 1], List.getElem?_eq_getElem h1⟩
           rw [if_pos h1, el_at hx2] at hbk
           (try (conv => whnf)); (repeat ((first | refine qT ?_ | refine qF ?_ | refine qO ?_ | (with_reducible intro z hz); (first | (replace hz := hz (by omega); subst hz) | subst hz)); (try (conv => whnf))))
           refine Idx.mk (k + 1) (zv z2) _ (by omega) (by simp [hx2]) rfl ?_
           (try (conv => whnf)); (repeat ((first | refine qT ?_ | refine qF ?_ | refine qO ?_ | (with_reducible intro z hz); (first | (replace hz := hz (by omega); subst hz) | subst hz)); (try (conv => whnf))))
           refine Idx.mk k (zv z) _ rfl (by simp [hx]) rfl ?_
           (try (conv => whnf)); (repeat ((first | refine qT ?_ | refine qF ?_ | refine qO ?_ | (with_reducible intro z hz); (first | (replace hz := hz (by omega); subst hz) | subst hz) | (refine CallV.mk _ (hC _ _ _ (PCw.of hPz)) (fun js hjs => ?_); subst hjs)); (try (conv => whnf))))
           refine Pos.mk R0.length (by omega) (by omega) ?_
           (try (conv => whnf)); (repeat ((first | refine qT ?_ | refine qF ?_ | refine qO ?_ | (with_reducible intro z hz); (first | (replace hz := hz (by omega); subst hz) | subst hz)); (try (conv => whnf))))
           refine At.mk (.imm (spv (x, y))) (by simp) ?_
           (try (conv => whnf)); (repeat ((first | refine qT ?_ | refine qF ?_ | refine qO ?_ | (with_reducible intro z hz); (first | (replace hz := hz (by omega); subst hz) | subst hz)); (try (conv => whnf))))
           refine Idx.mk k (zv z) _ rfl (by simp [hx]) rfl ?_
           (try (conv => whnf)); (repeat ((first | refine qT ?_ | refine qF ?_ | refine qO ?_ | (with_reducible intro z hz); (first | (replace hz := hz (by omega); subst hz) | subst hz)); (try (conv => whnf))))
           refine Idx.mk k (zv z) _ rfl (by simp [hx]) rfl ?_
           (try (conv => whnf)); (repeat ((first | refine qT ?_ | refine qF ?_ | refine qO ?_ | (with_reducible intro z hz); (first | (replace hz := hz (by omega); subst hz) | subst hz)); (try (conv => whnf))))
           refine ⟨k + 1, by omega, by dsimp only; omega, ?_⟩
           dsimp only []
           rw [hbk]
           exact ((WeakA.row 4 ((((R0 ++ [(x, y)]) ++ [(z, z2)]).map spv).map .imm) rfl (by simp [spv]))).trans ((WeakA.renew 4 1 rfl (by first | omega | (intro _; rw [hk0 _ _ rfl]; exact Nat.le_of_ble_eq_true rfl)) (by repeat (first | exact trivial | refine And.intro (rgL_imms _ _ _ _) ?_ | refine And.intro rfl ?_))).trans (qSL 5 rfl rfl))
         · rw [if_neg h1] at hbk
           (try (conv => whnf)); (repeat ((first | refine qT ?_ | refine qF ?_ | refine qO ?_ | (with_reducible intro z hz); (first | (replace hz := hz (by omega); subst hz) | subst hz)); (try (conv => whnf))))
           refine Idx.mk k (zv z) _ rfl (by simp [hx]) rfl ?_
           (try (conv => whnf)); (repeat ((first | refine qT ?_ | refine qF ?_ | refine qO ?_ | (with_reducible intro z hz); (first | (replace hz := hz (by omega); subst hz) | subst hz) | (refine CallV.mk _ (hC _ _ _ (PCw.of hPz)) (fun js hjs => ?_); subst hjs)); (try (conv => whnf))))
           refine Pos.mk R0.length (by omega) (by omega) ?_
           (try (conv => whnf)); (repeat ((first | refine qT ?_ | refine qF ?_ | refine qO ?_ | (with_reducible intro z hz); (first | (replace hz := hz (by omega); subst hz) | subst hz)); (try (conv => whnf))))
           refine At.mk (.imm (spv (x, y))) (by simp) ?_
           (try (conv => whnf)); (repeat ((first | refine qT ?_ | refine qF ?_ | refine qO ?_ | (with_reducible intro z hz); (first | (replace hz := hz (by omega); subst hz) | subst hz)); (try (conv => whnf))))
           refine Idx.mk k (zv z) _ rfl (by simp [hx]) rfl ?_
           (try (conv => whnf)); (repeat ((first | refine qT ?_ | refine qF ?_ | refine qO ?_ | (with_reducible intro z hz); (first | (replace hz := hz (by omega); subst hz) | subst hz)); (try (conv => whnf))))
           refine Idx.mk k (zv z) _ rfl (by simp [hx]) rfl ?_
           (try (conv => whnf)); (repeat ((first | refine qT ?_ | refine qF ?_ | refine qO ?_ | (with_reducible intro z hz); (first | (replace hz := hz (by omega); subst hz) | subst hz)); (try (conv => whnf))))
           refine ⟨k + 1, by omega, by dsimp only; omega, ?_⟩
           dsimp only []
           rw [hbk]
           exact ((WeakA.row 4 ((((R0 ++ [(x, y)]) ++ [((z, 1048577) : Sp)]).map spv).map .imm) rfl (by simp [spv]))).trans ((WeakA.renew 4 1 rfl (by first | omega | (intro _; rw [hk0 _ _ rfl]; exact Nat.le_of_ble_eq_true rfl)) (by repeat (first | exact trivial | refine And.intro (rgL_imms _ _ _ _) ?_ | refine And.intro rfl ?_))).trans (qSL 5 rfl rfl))
       · have hzy : z = y := by omega
         subst hzy
         rw [if_neg hlt2] at hbk
         by_cases h1 : k + 1 < zs.length
         · obtain ⟨z2, hx2⟩ : ∃ z, zs[k + 1]? = some z := ⟨zs[k + 1], List.getElem?_eq_getElem h1⟩
           rw [if_pos h1, el_at hx2] at hbk hpr
           (try (conv => whnf)); (repeat ((first | refine qT ?_ | refine qF ?_ | refine qO ?_ | (with_reducible intro z hz); (first | (replace hz := hz (by omega); subst hz) | subst hz)); (try (conv => whnf))))
           refine Idx.mk (k + 1) (zv z2) _ (by omega) (by simp [hx2]) rfl ?_
           (try (conv => whnf)); (repeat ((first | refine qT ?_ | refine qF ?_ | refine qO ?_ | (with_reducible intro z hz); (first | (replace hz := hz (by omega); subst hz) | subst hz)); (try (conv => whnf))))
           refine Idx.mk k (zv z) _ rfl (by simp [hx]) rfl ?_
           (try (conv => whnf)); (repeat ((first | refine qT ?_ | refine qF ?_ | refine qO ?_ | (with_reducible intro z hz); (first | (replace hz := hz (by omega); subst hz) | subst hz) | (refine CallV.mk _ (hC _ _ _ (PCw.of hPz)) (fun js hjs => ?_); subst hjs)); (try (conv => whnf))))
           refine Pos.mk R0.length (by omega) (by omega) ?_
           (try (conv => whnf)); (repeat ((first | refine qT ?_ | refine qF ?_ | refine qO ?_ | (with_reducible intro z hz); (first | (replace hz := hz (by omega); subst hz) | subst hz)); (try (conv => whnf))))
           refine At.mk (.imm (spv (x, z))) (by simp) ?_
           (try (conv => whnf)); (repeat ((first | refine qT ?_ | refine qF ?_ | refine qO ?_ | (with_reducible intro z hz); (first | (replace hz := hz (by omega); subst hz) | subst hz)); (try (conv => whnf))))
           refine Idx.mk k (zv z) _ rfl (by simp [hx]) rfl ?_
           (try (conv => whnf)); (repeat ((first | refine qT ?_ | refine qF ?_ | refine qO ?_ | (with_reducible intro z hz); (first | (replace hz := hz (by omega); subst hz) | subst hz)); (try (conv => whnf))))
           refine Pos.mk R0.length (by omega) (by omega) ?_
           (try (conv => whnf)); (repeat ((first | refine qT ?_ | refine qF ?_ | refine qO ?_ | (with_reducible intro z hz); (first | (replace hz := hz (by omega); subst hz) | subst hz)); (try (conv => whnf))))
           refine At.mk (.imm (spv (x, z))) (by simp) ?_
           (try (conv => whnf)); (repeat ((first | refine qT ?_ | refine qF ?_ | refine qO ?_ | (with_reducible intro z hz); (first | (replace hz := hz (by omega); subst hz) | subst hz)); (try (conv => whnf))))
           refine ⟨k + 1, by omega, by dsimp only; omega, ?_⟩
           dsimp only [] at hbk ⊢
           rw [hbk, show max z z2 = z2 by omega]
           exact ((WeakA.row 4 (((R0 ++ [(x, z2)]).map spv).map .imm) rfl (by simp [spv]; rfl))).trans (qSL 5 rfl rfl)
         · rw [if_neg h1] at hbk hpr
           (try (conv => whnf)); (repeat ((first | refine qT ?_ | refine qF ?_ | refine qO ?_ | (with_reducible intro z hz); (first | (replace hz := hz (by omega); subst hz) | subst hz)); (try (conv => whnf))))
           refine Idx.mk k (zv z) _ rfl (by simp [hx]) rfl ?_
           (try (conv => whnf)); (repeat ((first | refine qT ?_ | refine qF ?_ | refine qO ?_ | (with_reducible intro z hz); (first | (replace hz := hz (by omega); subst hz) | subst hz) | (refine CallV.mk _ (hC _ _ _ (PCw.of hPz)) (fun js hjs => ?_); subst hjs)); (try (conv => whnf))))
           refine Pos.mk R0.length (by omega) (by omega) ?_
           (try (conv => whnf)); (repeat ((first | refine qT ?_ | refine qF ?_ | refine qO ?_ | (with_reducible intro z hz); (first | (replace hz := hz (by omega); subst hz) | subst hz)); (try (conv => whnf))))
           refine At.mk (.imm (spv (x, z))) (by simp) ?_
           (try (conv => whnf)); (repeat ((first | refine qT ?_ | refine qF ?_ | refine qO ?_ | (with_reducible intro z hz); (first | (replace hz := hz (by omega); subst hz) | subst hz)); (try (conv => whnf))))
           refine Idx.mk k (zv z) _ rfl (by simp [hx]) rfl ?_
           (try (conv => whnf)); (repeat ((first | refine qT ?_ | refine qF ?_ | refine qO ?_ | (with_reducible intro z hz); (first | (replace hz := hz (by omega); subst hz) | subst hz)); (try (conv => whnf))))
           refine Pos.mk R0.length (by omega) (by omega) ?_
           (try (conv => whnf)); (repeat ((first | refine qT ?_ | refine qF ?_ | refine qO ?_ | (with_reducible intro z hz); (first | (replace hz := hz (by omega); subst hz) | subst hz)); (try (conv => whnf))))
           refine At.mk (.imm (spv (x, z))) (by simp) ?_
           (try (conv => whnf)); (repeat ((first | refine qT ?_ | refine qF ?_ | refine qO ?_ | (with_reducible intro z hz); (first | (replace hz := hz (by omega); subst hz) | subst hz)); (try (conv => whnf))))
           refine ⟨k + 1, by omega, by dsimp only; omega, ?_⟩
           dsimp only [] at hbk ⊢
           rw [hbk, show max z 1048577 = 1048577 by omega]
           exact ((WeakA.row 4 (((R0 ++ [((x, 1048577) : Sp)]).map spv).map .imm) rfl (by simp [spv]; rfl))).trans (qSL 5 rfl rfl)
 | inr hge =>
   obtain rfl : k = zs.length := by omega
   (try (conv => whnf)); (repeat ((first | refine qT ?_ | refine qF ?_ | refine qO ?_ | (with_reducible intro z hz); (first | (replace hz := hz (by omega); subst hz) | subst hz)); (try (conv => whnf))))
   refine Imms.mk ((bothL P zs zs.length).map spv) rfl ?_
   exact hfin _ (ILes.refl _)
theorem canon_ext {P Q : Int → Bool} (h : ∀ d, 0 ≤ d → d ≤ 1048576 → P d = Q d) : canon P = canon Q := by
 by_cases hP : ∃ R, Is R P
 · obtain ⟨R, hR⟩ := hP
   rw [← canon_is hR, ← canon_is (hR.congr h)]
 · have hQ : ¬ ∃ R, Is R Q := fun ⟨R, hR⟩ => hP ⟨R, hR.congr fun d h0 h1 => (h d h0 h1).symm⟩
   unfold canon
   rw [dif_neg hP, dif_neg hQ]
theorem both_pc (h : Int) (hh : h = 0 ∨ h = 1 ∨ h = 2) (La Lb : List Sp) (ha : La.length ≤ 10000) (hb : Lb.length ≤ 10000) : PC Try.prog env0 39 [.int .i64 h, .sl 2 (La.map spv), .sl 2 (Lb.map spv)] [.sl 2 ((canon (opP h La Lb)).map spv)] := by
 have := both0_pc h hh La Lb ha hb
 rwa [(both_is2 h La Lb).1] at this
theorem PC.arg {P : Program} {X : Env} {f : FuncId} {args args' res : List IV} (h : PC P X f args' res) (hl : ILes args args') : PC P X f args res :=
 ⟨h.1, fun Q w vs hQ hg hX hvs => h.2 Q w vs hQ hg hX (hl.rep hvs)⟩
theorem of_pc (L : List Sp) (hl : L.length ≤ 10000) : PC Try.prog env0 37 [.sl 2 (L.map spv)] [.sl 2 ((canon (memB L)).map spv)] := by
 have h := both_pc 0 (Or.inl rfl) L [] hl (by simp)
 rw [show canon (opP 0 L []) = canon (memB L) from canon_ext fun d h0 h1 => by rw [op0 L [] d h0 h1]; simp [memB]] at h
 have h := PC.arg (args := [.int .i64 0, .sl 2 (L.map spv), .nil]) h (.cons (ILe.refl _) (.cons (ILe.refl _) (.cons (ILe.nil _) (.refl _))))
 refine PC.of_va (T := tb0) eqs_ok tb_ok rfl mixed Try.func37 rfl rfl (Nat.le_of_ble_eq_true rfl) ?_; intro Γ C WK LP fin h0 hW hC hB hR hLP hfin
 (try (conv => whnf)); (repeat ((first | refine qT ?_ | refine qF ?_ | refine qO ?_ | (with_reducible intro z hz); (first | (replace hz := hz (by omega); subst hz) | subst hz) | (refine CallV.mk _ (hC _ _ _ (PCw.of h)) (fun js hjs => ?_); subst hjs)); (try (conv => whnf))))
 exact hfin _ (ILes.refl _)
theorem from_pc (d : Int) : PC Try.prog env0 30 [.int .i64 d] [.sl 2 ((canon (memB [(d, 1048577)])).map spv)] := by
 have h := of_pc [(d, 1048577)] (by simp)
 refine PC.of_va (T := tb0) eqs_ok tb_ok rfl mixed Try.func30 rfl rfl (Nat.le_of_ble_eq_true rfl) ?_; intro Γ C WK LP fin h0 hW hC hB hR hLP hfin
 (try (conv => whnf)); (repeat ((first | refine qT ?_ | refine qF ?_ | refine qO ?_ | (with_reducible intro z hz); (first | (replace hz := hz (by omega); subst hz) | subst hz)); (try (conv => whnf))))
 refine Imms.mk [spv (d, 1048577)] rfl ?_
 (try (conv => whnf)); (repeat ((first | refine qT ?_ | refine qF ?_ | refine qO ?_ | (with_reducible intro z hz); (first | (replace hz := hz (by omega); subst hz) | subst hz) | (refine CallV.mk _ (hC _ _ _ (PCw.of h)) (fun js hjs => ?_); subst hjs)); (try (conv => whnf))))
 exact hfin _ (ILes.refl _)
theorem until_pc (L : List Sp) (t : Int) (hl : L.length ≤ 10000) : PC Try.prog env0 33 [.sl 2 (L.map spv), .int .i64 t] [.sl 2 ((canon fun d => memB L d && memB [(0, t)] d).map spv)] := by
 have h := both_pc 1 (Or.inr (Or.inl rfl)) L [(0, t)] hl (by simp)
 rw [canon_ext (op1 L [(0, t)])] at h
 refine PC.of_va (T := tb0) eqs_ok tb_ok rfl mixed Try.func33 rfl rfl (Nat.le_of_ble_eq_true rfl) ?_; intro Γ C WK LP fin h0 hW hC hB hR hLP hfin
 (try (conv => whnf)); (repeat ((first | refine qT ?_ | refine qF ?_ | refine qO ?_ | (with_reducible intro z hz); (first | (replace hz := hz (by omega); subst hz) | subst hz)); (try (conv => whnf))))
 refine Imms.mk [spv (0, t)] rfl ?_
 (try (conv => whnf)); (repeat ((first | refine qT ?_ | refine qF ?_ | refine qO ?_ | (with_reducible intro z hz); (first | (replace hz := hz (by omega); subst hz) | subst hz) | (refine CallV.mk _ (hC _ _ _ (PCw.of h)) (fun js hjs => ?_); subst hjs)); (try (conv => whnf))))
 exact hfin _ (ILes.refl _)
theorem since_pc (L : List Sp) (t : Int) (hl : L.length ≤ 10000) (hl2 : (canon fun d => memB L d && memB [(0, t)] d).length ≤ 10000) : PC Try.prog env0 32 [.sl 2 (L.map spv), .int .i64 t] [.sl 2 ((canon fun d => memB L d || memB [(t, 1048577)] d).map spv)] := by
 have hu := until_pc L t hl
 have hi : Is (canon fun d => memB L d && memB [(0, t)] d) (fun d => memB L d && memB [(0, t)] d) := (both_is2 1 L [(0, t)]).2.congr (op1 L [(0, t)]) |> fun x => by
   have := canon_ext (op1 L [(0, t)])
   rw [this] at x
   exact x
 generalize canon (fun d => memB L d && memB [(0, t)] d) = U at *
 have hv : ∀ d, 0 ≤ d → d ≤ 1048576 → memB U d = (memB L d && memB [(0, t)] d) := hi.2
 have h := both_pc 0 (Or.inl rfl) U [(t, 1048577)] hl2 (by simp)
 rw [show canon (opP 0 U [(t, 1048577)]) = canon (fun d => memB L d || memB [(t, 1048577)] d) from canon_ext fun d h0 h1 => by
   rw [op0 U [(t, 1048577)] d h0 h1, hv d h0 h1, until_val d t h0, since_val d t h1]
   cases memB L d <;> cases decide (d < t) <;> rfl] at h
 refine PC.of_va (T := tb0) eqs_ok tb_ok rfl mixed Try.func32 rfl rfl (Nat.le_of_ble_eq_true rfl) ?_; intro Γ C WK LP fin h0 hW hC hB hR hLP hfin
 (try (conv => whnf)); (repeat ((first | refine qT ?_ | refine qF ?_ | refine qO ?_ | (with_reducible intro z hz); (first | (replace hz := hz (by omega); subst hz) | subst hz) | (refine CallV.mk _ (hC _ _ _ (PCw.of hu)) (fun js hjs => ?_); subst hjs)); (try (conv => whnf))))
 refine Imms.mk [spv (t, 1048577)] rfl ?_
 (try (conv => whnf)); (repeat ((first | refine qT ?_ | refine qF ?_ | refine qO ?_ | (with_reducible intro z hz); (first | (replace hz := hz (by omega); subst hz) | subst hz) | (refine CallV.mk _ (hC _ _ _ (PCw.of h)) (fun js hjs => ?_); subst hjs)); (try (conv => whnf))))
 exact hfin _ (ILes.refl _)
theorem sp_eq {a b : Sp} (h : a = b) : eqC [.int .i64 a.1, .int .i64 a.2] [.int .i64 b.1, .int .i64 b.2] = true := by subst h; simp [eqC]
theorem sp_ne {a b : Sp} (h : a ≠ b) : ¬ eqC [.int .i64 a.1, .int .i64 a.2] [.int .i64 b.1, .int .i64 b.2] = true := fun e => h (by
 obtain ⟨x, y⟩ := a
 obtain ⟨x2, y2⟩ := b
 simpa [eqC] using e)
theorem pre_ne {α : Type} {a b : List α} {k : Nat} {x y : α} (hx : a[k]? = some x) (hy : b[k]? = some y) (h : x ≠ y) : a ≠ b := fun e => by
 subst e
 rw [hx] at hy
 exact h (Option.some.inj hy)
theorem same_pc (a b : List Sp) (_ha : a.length ≤ 1000000000) (_hb : b.length ≤ 1000000000) : PC Try.prog env0 16 [.sl 2 (a.map spv), .sl 2 (b.map spv)] [.bool (decide (a = b))] := by
 have h1 : (a.map spv).length = a.length := List.length_map _
 have h2 : (b.map spv).length = b.length := List.length_map _
 by_cases hl : a.length = b.length
 · refine PC.of_va (T := tb0) eqs_ok tb_ok rfl mixed Try.func16 rfl rfl (Nat.le_of_ble_eq_true rfl) ?_; intro Γ C WK LP fin h0 hW hC hB hR hLP hfin
   (try (conv => whnf)); (repeat ((first | refine qT ?_ | refine qF ?_ | refine qO ?_ | (with_reducible intro z hz); (first | (replace hz := hz (by omega); subst hz) | subst hz)); (try (conv => whnf))))
   refine hLP _ _ _ Nat (fun k => ⟨[(0, .imm (.sl 2 (a.map spv))), (1, .imm (.sl 2 (b.map spv))), (5, .imm (.int .i64 (k : Nat)))], []⟩) (fun k => k ≤ a.length ∧ a.take k = b.take k) (fun k => a.length - k) 0 ⟨Nat.zero_le _, rfl⟩ (qSL 0 rfl rfl) ?_
   rintro k ⟨hk, hab⟩
   have hho := Nat.lt_or_ge k a.length
   cases hho with
   | inl hlt =>
     obtain ⟨x, hx⟩ : ∃ x, a[k]? = some x := ⟨a[k], List.getElem?_eq_getElem hlt⟩
     obtain ⟨y, hy⟩ : ∃ y, b[k]? = some y := ⟨b[k]'(by omega), List.getElem?_eq_getElem (by omega)⟩
     by_cases hxy : x = y
     · have hi := sp_eq hxy
       (try (conv => whnf)); (repeat ((first | refine qT ?_ | refine qF ?_ | refine qO ?_ | (with_reducible intro z hz); (first | (replace hz := hz (by omega); subst hz) | subst hz)); (try (conv => whnf))))
       refine Idx.mk k (spv x) _ rfl (by simp [hx]) rfl ?_
       (try (conv => whnf)); (repeat ((first | refine qT ?_ | refine qF ?_ | refine qO ?_ | (with_reducible intro z hz); (first | (replace hz := hz (by omega); subst hz) | subst hz)); (try (conv => whnf))))
       refine Idx.mk k (spv y) _ rfl (by simp [hy]) rfl ?_
       (try (conv => whnf)); (repeat ((first | refine qT ?_ | refine qF ?_ | refine qO ?_ | (with_reducible intro z hz); (first | (replace hz := hz (by omega); subst hz) | subst hz)); (try (conv => whnf))))
       exact ⟨k + 1, ⟨by omega, by rw [take_at hx, take_at hy, hab, hxy]⟩, by dsimp only; omega, (qSL 0 rfl rfl)⟩
     · have hi := sp_ne hxy
       (try (conv => whnf)); (repeat ((first | refine qT ?_ | refine qF ?_ | refine qO ?_ | (with_reducible intro z hz); (first | (replace hz := hz (by omega); subst hz) | subst hz)); (try (conv => whnf))))
       refine Idx.mk k (spv x) _ rfl (by simp [hx]) rfl ?_
       (try (conv => whnf)); (repeat ((first | refine qT ?_ | refine qF ?_ | refine qO ?_ | (with_reducible intro z hz); (first | (replace hz := hz (by omega); subst hz) | subst hz)); (try (conv => whnf))))
       refine Idx.mk k (spv y) _ rfl (by simp [hy]) rfl ?_
       (try (conv => whnf)); (repeat ((first | refine qT ?_ | refine qF ?_ | refine qO ?_ | (with_reducible intro z hz); (first | (replace hz := hz (by omega); subst hz) | subst hz)); (try (conv => whnf))))
       rw [decide_eq_false (pre_ne hx hy hxy)] at hfin
       exact hfin _ (ILes.refl _)
   | inr hge =>
     (try (conv => whnf)); (repeat ((first | refine qT ?_ | refine qF ?_ | refine qO ?_ | (with_reducible intro z hz); (first | (replace hz := hz (by omega); subst hz) | subst hz)); (try (conv => whnf))))
     obtain rfl : k = a.length := by omega
     rw [List.take_length, hl, List.take_length] at hab
     rw [decide_eq_true hab] at hfin
     exact hfin _ (ILes.refl _)
 · rw [decide_eq_false (fun e => hl (by rw [e]))]
   refine PC.of_va (T := tb0) eqs_ok tb_ok rfl mixed Try.func16 rfl rfl (Nat.le_of_ble_eq_true rfl) ?_; intro Γ C WK LP fin h0 hW hC hB hR hLP hfin
   (try (conv => whnf)); (repeat ((first | refine qT ?_ | refine qF ?_ | refine qO ?_ | (with_reducible intro z hz); (first | (replace hz := hz (by omega); subst hz) | subst hz)); (try (conv => whnf))))
   exact hfin _ (ILes.refl _)
end Go.Proofs.Ytmgjpmjmondplaa.Pe
