/-
  The reference's Put.
-/
import Derived.Test.YtopohipcpomecaaDoorWDm
namespace Go.Proofs.YtopohipcpomecaaDoor.Pd
open Go Go.Pv Go.RowKit Go.Proofs.YtopohipcpomecaaDoor.Pu Go.Proofs.YtopohipcpomecaaDoor.Pb
set_option linter.unusedSimpArgs false
open Lab Lcs Go.Proofs.YtopohipcpomecaaDoor
set_option maxRecDepth 10000
set_option maxHeartbeats 16000000
def stepP (t : Trip) (s : List Trip × Bool) (x : Trip) : List Trip × Bool :=
 if s.2 = true then (if x = t then s else (s.1 ++ [x], true))
 else if lessT x t = true then (if x = t then s else (s.1 ++ [x], false))
 else (if x = t then (s.1 ++ [t], true) else (s.1 ++ [t, x], true))
def foldP (t : Trip) (l : List Trip) : List Trip × Bool := l.foldl (stepP t) ([], false)
def putP (t : Trip) (l : List Trip) : List Trip := if (foldP t l).2 = true then (foldP t l).1 else (foldP t l).1 ++ [t]
theorem foldP_take {t : Trip} {l : List Trip} {k : Nat} {x : Trip} (h : l[k]? = some x) : foldP t (l.take (k + 1)) = stepP t (foldP t (l.take k)) x := by
 unfold foldP
 rw [take_at h, List.foldl_append, List.foldl_cons, List.foldl_nil]
theorem step_len (t : Trip) (s : List Trip × Bool) (x : Trip) : (stepP t s x).1.length ≤ s.1.length + 2 := by
 unfold stepP
 repeat' split
 all_goals simp
theorem fold_len (t : Trip) (l : List Trip) : ∀ k, k ≤ l.length → (foldP t (l.take k)).1.length ≤ 2 * k
 | 0, _ => by simp [foldP]
 | k + 1, h => by
   obtain ⟨x, hx⟩ : ∃ x, l[k]? = some x := ⟨l[k], List.getElem?_eq_getElem (by omega)⟩
   have := fold_len t l k (by omega)
   have := step_len t (foldP t (l.take k)) x
   rw [foldP_take hx]
   omega
theorem put_pc (l : List Trip) (t : Trip) (hl : l.length ≤ 1000000) : PC Tryd.prog envH 42 [.sl 3 (l.map idv), idv t] [.sl 3 ((putP t l).map idv)] := by
 have h1 : (l.map idv).length = l.length := List.length_map _
 show PC Tryd.prog envH _ [.sl 3 (l.map idv), .agg [.int .i64 t.x, .int .i64 t.y, .int .i64 t.z]] _
 refine PC.of_va (T := tbi) eqs_ok tbi_ok rfl mixed Tryd.func42 rfl rfl (Nat.le_of_ble_eq_true rfl) ?_; intro Γ C WK LP fin h0 hW hC hB hR hLP hfin
 (try (conv => whnf)); (repeat ((first | refine qT ?_ | refine qF ?_ | refine qO ?_ | (with_reducible intro z hz); (first | (replace hz := hz (by omega); subst hz) | subst hz)); (try (conv => whnf))))
 refine hLP _ _ _ Nat (fun k => ⟨[(0, .imm (.sl 3 (l.map idv))), (3, .ptr 0 1 0), (5, .row 1 1), (6, .imm (.bool (foldP t (l.take k)).2)), (7, .imm (.int .i64 (k : Nat)))], [.box 1 [.imm (.int .i64 t.x), .imm (.int .i64 t.y), .imm (.int .i64 t.z)], .row 26 3 1 ((((foldP t (l.take k)).1).map idv).map .imm)]⟩) (fun k => k ≤ l.length) (fun k => l.length - k) 0 (Nat.zero_le _) ((WeakA.row 1 (((((foldP t (l.take 0)).1).map idv).map .imm)) rfl (by rfl)).trans (qSL 2 rfl rfl)) ?_
 intro k hk
 have hho := Nat.lt_or_ge k l.length
 have hfl := fold_len t l k hk
 cases hho with
 | inl hlt =>
   refine (?_ : ∀ Q : Exit → AS → Prop, vcS _ _ _ _ _ _ _ (loopQA _ _ _ _ _ _ Q)) _; intro Q
   obtain ⟨x, hx⟩ : ∃ x, l[k]? = some x := ⟨l[k], List.getElem?_eq_getElem hlt⟩
   have hL := less_pc x t
   have hst := foldP_take (t := t) hx
   obtain ⟨⟨P, b⟩, hP⟩ : ∃ p, foldP t (l.take k) = p := ⟨_, rfl⟩
   rw [hP] at hst hfl ⊢
   dsimp only at hfl ⊢
   have hpl : ((P.map idv).map PV.imm).length = P.length := by simp
   unfold stepP at hst
   dsimp only at hst
   unfold idv idl at hL
   by_cases hxt : x = t
   · cases b with
     | true =>
       rw [if_pos rfl, if_pos hxt] at hst
       have hi := tr_eq hxt
       (try (conv => whnf)); (repeat ((first | refine qT ?_ | refine qF ?_ | refine qO ?_ | (with_reducible intro z hz); (first | (replace hz := hz (by omega); subst hz) | subst hz)); (try (conv => whnf))))
       refine Idx.mk k (idv x) _ rfl (by simp [hx]) rfl ?_
       (try (conv => whnf)); (repeat ((first | refine qT ?_ | refine qF ?_ | refine qO ?_ | (with_reducible intro z hz); (first | (replace hz := hz (by omega); subst hz) | subst hz)); (try (conv => whnf))))
       refine ⟨k + 1, by omega, by dsimp only; omega, ?_⟩
       dsimp only []
       rw [hst]
       exact (qSL 2 rfl rfl)
     | false =>
       rw [if_neg (by simp)] at hst
       by_cases hls : lessT x t = true
       · rw [if_pos hls, if_pos hxt] at hst
         rw [hls] at hL
         have hi := tr_eq hxt
         (try (conv => whnf)); (repeat ((first | refine qT ?_ | refine qF ?_ | refine qO ?_ | (with_reducible intro z hz); (first | (replace hz := hz (by omega); subst hz) | subst hz)); (try (conv => whnf))))
         refine Idx.mk k (idv x) _ rfl (by simp [hx]) rfl ?_
         (try (conv => whnf)); (repeat ((first | refine qT ?_ | refine qF ?_ | refine qO ?_ | (with_reducible intro z hz); (first | (replace hz := hz (by omega); subst hz) | subst hz) | (refine CallV.mk _ (hC _ _ _ (PCw.of hL)) (fun js hjs => ?_); subst hjs)); (try (conv => whnf))))
         refine Idx.mk k (idv x) _ rfl (by simp [hx]) rfl ?_
         (try (conv => whnf)); (repeat ((first | refine qT ?_ | refine qF ?_ | refine qO ?_ | (with_reducible intro z hz); (first | (replace hz := hz (by omega); subst hz) | subst hz)); (try (conv => whnf))))
         refine ⟨k + 1, by omega, by dsimp only; omega, ?_⟩
         dsimp only []
         rw [hst]
         exact (qSL 2 rfl rfl)
       · rw [if_neg hls, if_pos hxt] at hst
         rw [Bool.not_eq_true] at hls
         rw [hls] at hL
         have hi := tr_eq hxt
         (try (conv => whnf)); (repeat ((first | refine qT ?_ | refine qF ?_ | refine qO ?_ | (with_reducible intro z hz); (first | (replace hz := hz (by omega); subst hz) | subst hz)); (try (conv => whnf))))
         refine Idx.mk k (idv x) _ rfl (by simp [hx]) rfl ?_
         (try (conv => whnf)); (repeat ((first | refine qT ?_ | refine qF ?_ | refine qO ?_ | (with_reducible intro z hz); (first | (replace hz := hz (by omega); subst hz) | subst hz) | (refine CallV.mk _ (hC _ _ _ (PCw.of hL)) (fun js hjs => ?_); subst hjs)); (try (conv => whnf))))
         refine Idx.mk k (idv x) _ rfl (by simp [hx]) rfl ?_
         (try (conv => whnf)); (repeat ((first | refine qT ?_ | refine qF ?_ | refine qO ?_ | (with_reducible intro z hz); (first | (replace hz := hz (by omega); subst hz) | subst hz)); (try (conv => whnf))))
         refine ⟨k + 1, by omega, by dsimp only; omega, ?_⟩
         dsimp only []
         rw [hst]
         exact ((WeakA.row 1 (((P ++ [t]).map idv).map .imm) rfl (by simp; first | rfl | exact ⟨rfl, rfl⟩))).trans ((WeakA.renew 1 1 rfl (by first | omega | (intro _; rw [hk0 _ _ rfl]; exact Nat.le_of_ble_eq_true rfl)) (by repeat (first | exact trivial | refine And.intro (rgL_imms _ _ _ _) ?_ | refine And.intro rfl ?_))).trans (qSL 2 rfl rfl))
   · cases b with
     | true =>
       rw [if_pos rfl, if_neg hxt] at hst
       have hi := tr_ne hxt
       (try (conv => whnf)); (repeat ((first | refine qT ?_ | refine qF ?_ | refine qO ?_ | (with_reducible intro z hz); (first | (replace hz := hz (by omega); subst hz) | subst hz)); (try (conv => whnf))))
       refine Idx.mk k (idv x) _ rfl (by simp [hx]) rfl ?_
       (try (conv => whnf)); (repeat ((first | refine qT ?_ | refine qF ?_ | refine qO ?_ | (with_reducible intro z hz); (first | (replace hz := hz (by omega); subst hz) | subst hz)); (try (conv => whnf))))
       refine Idx.mk k (idv x) _ rfl (by simp [hx]) rfl ?_
       (try (conv => whnf)); (repeat ((first | refine qT ?_ | refine qF ?_ | refine qO ?_ | (with_reducible intro z hz); (first | (replace hz := hz (by omega); subst hz) | subst hz)); (try (conv => whnf))))
       refine ⟨k + 1, by omega, by dsimp only; omega, ?_⟩
       dsimp only []
       rw [hst]
       exact ((WeakA.row 1 (((P ++ [x]).map idv).map .imm) rfl (by simp; first | rfl | exact ⟨rfl, rfl⟩))).trans ((WeakA.renew 1 1 rfl (by first | omega | (intro _; rw [hk0 _ _ rfl]; exact Nat.le_of_ble_eq_true rfl)) (by repeat (first | exact trivial | refine And.intro (rgL_imms _ _ _ _) ?_ | refine And.intro rfl ?_))).trans (qSL 2 rfl rfl))
     | false =>
       rw [if_neg (by simp)] at hst
       by_cases hls : lessT x t = true
       · rw [if_pos hls, if_neg hxt] at hst
         rw [hls] at hL
         have hi := tr_ne hxt
         (try (conv => whnf)); (repeat ((first | refine qT ?_ | refine qF ?_ | refine qO ?_ | (with_reducible intro z hz); (first | (replace hz := hz (by omega); subst hz) | subst hz)); (try (conv => whnf))))
         refine Idx.mk k (idv x) _ rfl (by simp [hx]) rfl ?_
         (try (conv => whnf)); (repeat ((first | refine qT ?_ | refine qF ?_ | refine qO ?_ | (with_reducible intro z hz); (first | (replace hz := hz (by omega); subst hz) | subst hz) | (refine CallV.mk _ (hC _ _ _ (PCw.of hL)) (fun js hjs => ?_); subst hjs)); (try (conv => whnf))))
         refine Idx.mk k (idv x) _ rfl (by simp [hx]) rfl ?_
         (try (conv => whnf)); (repeat ((first | refine qT ?_ | refine qF ?_ | refine qO ?_ | (with_reducible intro z hz); (first | (replace hz := hz (by omega); subst hz) | subst hz)); (try (conv => whnf))))
         refine Idx.mk k (idv x) _ rfl (by simp [hx]) rfl ?_
         (try (conv => whnf)); (repeat ((first | refine qT ?_ | refine qF ?_ | refine qO ?_ | (with_reducible intro z hz); (first | (replace hz := hz (by omega); subst hz) | subst hz)); (try (conv => whnf))))
         refine ⟨k + 1, by omega, by dsimp only; omega, ?_⟩
         dsimp only []
         rw [hst]
         exact ((WeakA.row 1 (((P ++ [x]).map idv).map .imm) rfl (by simp; first | rfl | exact ⟨rfl, rfl⟩))).trans ((WeakA.renew 1 1 rfl (by first | omega | (intro _; rw [hk0 _ _ rfl]; exact Nat.le_of_ble_eq_true rfl)) (by repeat (first | exact trivial | refine And.intro (rgL_imms _ _ _ _) ?_ | refine And.intro rfl ?_))).trans (qSL 2 rfl rfl))
       · rw [if_neg hls, if_neg hxt] at hst
         rw [Bool.not_eq_true] at hls
         rw [hls] at hL
         have hi := tr_ne hxt
         (try (conv => whnf)); (repeat ((first | refine qT ?_ | refine qF ?_ | refine qO ?_ | (with_reducible intro z hz); (first | (replace hz := hz (by omega); subst hz) | subst hz)); (try (conv => whnf))))
         refine Idx.mk k (idv x) _ rfl (by simp [hx]) rfl ?_
         (try (conv => whnf)); (repeat ((first | refine qT ?_ | refine qF ?_ | refine qO ?_ | (with_reducible intro z hz); (first | (replace hz := hz (by omega); subst hz) | subst hz) | (refine CallV.mk _ (hC _ _ _ (PCw.of hL)) (fun js hjs => ?_); subst hjs)); (try (conv => whnf))))
         refine Idx.mk k (idv x) _ rfl (by simp [hx]) rfl ?_
         (try (conv => whnf)); (repeat ((first | refine qT ?_ | refine qF ?_ | refine qO ?_ | (with_reducible intro z hz); (first | (replace hz := hz (by omega); subst hz) | subst hz)); (try (conv => whnf))))
         refine Idx.mk k (idv x) _ rfl (by simp [hx]) rfl ?_
         (try (conv => whnf)); (repeat ((first | refine qT ?_ | refine qF ?_ | refine qO ?_ | (with_reducible intro z hz); (first | (replace hz := hz (by omega); subst hz) | subst hz)); (try (conv => whnf))))
         refine ⟨k + 1, by omega, by dsimp only; omega, ?_⟩
         dsimp only []
         rw [hst]
         exact ((WeakA.row 1 (((P ++ [t, x]).map idv).map .imm) rfl (by simp; first | rfl | exact ⟨rfl, rfl⟩))).trans ((WeakA.renew 1 1 rfl (by first | omega | (intro _; rw [hk0 _ _ rfl]; exact Nat.le_of_ble_eq_true rfl)) (by repeat (first | exact trivial | refine And.intro (rgL_imms _ _ _ _) ?_ | refine And.intro rfl ?_))).trans (qSL 2 rfl rfl))
 | inr hge =>
   obtain rfl : k = l.length := by omega
   rw [List.take_length] at hfl ⊢
   unfold putP at hfin
   obtain ⟨⟨P, b⟩, hP⟩ : ∃ p, foldP t l = p := ⟨_, rfl⟩
   rw [hP] at hfl hfin ⊢
   dsimp only at hfl hfin ⊢
   have hpl : ((P.map idv).map PV.imm).length = P.length := by simp
   cases b with
   | true =>
     rw [if_pos rfl] at hfin
     (try (conv => whnf)); (repeat ((first | refine qT ?_ | refine qF ?_ | refine qO ?_ | (with_reducible intro z hz); (first | (replace hz := hz (by omega); subst hz) | subst hz)); (try (conv => whnf))))
     refine Imms.mk (P.map idv) rfl ?_
     (try (conv => whnf)); (repeat ((first | refine qT ?_ | refine qF ?_ | refine qO ?_ | (with_reducible intro z hz); (first | (replace hz := hz (by omega); subst hz) | subst hz)); (try (conv => whnf))))
     exact hfin _ (ILes.refl _)
   | false =>
     rw [if_neg (by simp)] at hfin
     (try (conv => whnf)); (repeat ((first | refine qT ?_ | refine qF ?_ | refine qO ?_ | (with_reducible intro z hz); (first | (replace hz := hz (by omega); subst hz) | subst hz)); (try (conv => whnf))))
     refine Imms.mk ((P ++ [t]).map idv) (by simp; rfl) ?_
     (try (conv => whnf)); (repeat ((first | refine qT ?_ | refine qF ?_ | refine qO ?_ | (with_reducible intro z hz); (first | (replace hz := hz (by omega); subst hz) | subst hz)); (try (conv => whnf))))
     exact hfin _ (ILes.refl _)
end Go.Proofs.YtopohipcpomecaaDoor.Pd
