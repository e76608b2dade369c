/-
  The law of what is irrelevant.
-/
import Derived.Test.YtmgjpmjmondplaaWAm
namespace Go.Proofs.Ytmgjpmjmondplaa.Pe
open Go Go.Pv Go.RowKit
set_option linter.unusedSimpArgs false
open Spans Rm
set_option maxRecDepth 10000
set_option maxHeartbeats 32000000
def keepE (e x : En) : Bool := decide (x.it.kind = 10) || refers x.it e.act e.item
theorem evD_keep (name : Str) (e : En) : ∀ l : List En, evD name (l.filter (keepE e)) = evD name l := fun l => by
 unfold evD
 congr 1
 induction l with
 | nil => rfl
 | cons x l ih =>
   cases hx : keepE e x with
   | true =>
     rw [List.filter_cons, hx, if_pos rfl, List.find?_cons, List.find?_cons, ih]
   | false =>
     have hq : dq name x = false := by
       unfold keepE at hx
       simp at hx
       unfold dq
       rw [decide_eq_false hx.1, Bool.false_and]
     rw [List.filter_cons, hx, if_neg (by simp), ih, List.find?_cons, hq]
theorem days_keep (e : En) : ∀ (l : List En) (P : Int → Bool), daysP P e (l.filter (keepE e)) = daysP P e l
 | [], _ => rfl
 | x :: l, P => by
   cases hx : keepE e x with
   | true =>
     rw [List.filter_cons, hx, if_pos rfl]
     exact days_keep e l (stepD e P x)
   | false =>
     have hq : refers x.it e.act e.item = false := by
       unfold keepE at hx
       simp at hx
       exact hx.2
     rw [List.filter_cons, hx, if_neg (by simp), days_keep e l P]
     show _ = daysP (stepD e P x) e l
     rw [step_no hq]
theorem force_keep (a : St) (e : En) (l : List En) : forceL a e (l.filter (keepE e)) = forceL a e l := by
 unfold forceL stD
 rw [days_keep, evD_keep]
theorem lawIrrelevant (a : St) (e : En) (l : List En) (ha : a.e.size ≤ 9223372036854775807) (h : InE e l) : PC Try.prog env0 7 [stv a, env1 e, .sl 28 (l.map env1)] [.bool true] := by
 have hA := awake_pc
 have hF := few2_pc e l h
 have hml : (l.map env1).length = l.length := List.length_map _
 have hb := h.1
 rw [env_eq e]
 unfold stv
 cases hfe : fewE (e :: l) with
 | false =>
   rw [hfe] at hF
   refine PC.of_va (T := tb0) eqs_ok tb_ok rfl mixed Try.func7 rfl rfl (Nat.le_of_ble_eq_true rfl) ?_; intro Γ C WK LP fin h0 hW hC hB hR hLP hfin
   (try (conv => whnf)); (repeat ((first | refine qT ?_ | refine qF ?_ | refine qO ?_ | (with_reducible intro z hz); (first | (replace hz := hz (by omega); subst hz) | subst hz) | (refine CallV.mk _ (hC _ _ _ (PCw.of hA)) (fun js hjs => ?_); subst hjs)); (try (conv => whnf))))
   refine Imms.mk ((e :: l).map env1) rfl ?_
   (try (conv => whnf)); (repeat ((first | refine qT ?_ | refine qF ?_ | refine qO ?_ | (with_reducible intro z hz); (first | (replace hz := hz (by omega); subst hz) | subst hz) | (refine CallV.mk _ (hC _ _ _ (PCw.of hF)) (fun js hjs => ?_); subst hjs) | (refine CallV.mk _ (hC _ _ _ (PCw.of hA)) (fun js hjs => ?_); subst hjs)); (try (conv => whnf))))
   exact hfin _ (ILes.refl _)
 | true =>
   have hle := few_le hfe
   rw [hfe] at hF
   by_cases h1 : a.e.size ≤ 100
   rotate_left
   · refine PC.of_va (T := tb0) eqs_ok tb_ok rfl mixed Try.func7 rfl rfl (Nat.le_of_ble_eq_true rfl) ?_; intro Γ C WK LP fin h0 hW hC hB hR hLP hfin
     (try (conv => whnf)); (repeat ((first | refine qT ?_ | refine qF ?_ | refine qO ?_ | (with_reducible intro z hz); (first | (replace hz := hz (by omega); subst hz) | subst hz) | (refine CallV.mk _ (hC _ _ _ (PCw.of hA)) (fun js hjs => ?_); subst hjs)); (try (conv => whnf))))
     refine Imms.mk ((e :: l).map env1) rfl ?_
     (try (conv => whnf)); (repeat ((first | refine qT ?_ | refine qF ?_ | refine qO ?_ | (with_reducible intro z hz); (first | (replace hz := hz (by omega); subst hz) | subst hz) | (refine CallV.mk _ (hC _ _ _ (PCw.of hF)) (fun js hjs => ?_); subst hjs) | (refine CallV.mk _ (hC _ _ _ (PCw.of hA)) (fun js hjs => ?_); subst hjs)); (try (conv => whnf))))
     exact hfin _ (ILes.refl _)
   have hI := inforce_pc a e l (by omega)
   have hI2 := inforce_pc a e (l.filter (keepE e)) (Nat.le_trans (List.length_filter_le _ _) (by omega))
   rw [force_keep] at hI2
   rw [env_eq e] at hI hI2
   unfold stv at hI hI2
   have hcl := force_len a e l
   have hQ := same_self (forceL a e l) (by omega)
   generalize forceL a e l = D at *
   refine PC.of_va (T := tb0) eqs_ok tb_ok rfl mixed Try.func7 rfl rfl (Nat.le_of_ble_eq_true rfl) ?_; intro Γ C WK LP fin h0 hW hC hB hR hLP hfin
   (try (conv => whnf)); (repeat ((first | refine qT ?_ | refine qF ?_ | refine qO ?_ | (with_reducible intro z hz); (first | (replace hz := hz (by omega); subst hz) | subst hz) | (refine CallV.mk _ (hC _ _ _ (PCw.of hA)) (fun js hjs => ?_); subst hjs)); (try (conv => whnf))))
   refine Imms.mk ((e :: l).map env1) rfl ?_
   (try (conv => whnf)); (repeat ((first | refine qT ?_ | refine qF ?_ | refine qO ?_ | (with_reducible intro z hz); (first | (replace hz := hz (by omega); subst hz) | subst hz) | (refine CallV.mk _ (hC _ _ _ (PCw.of hF)) (fun js hjs => ?_); subst hjs)); (try (conv => whnf))))
   refine hLP _ _ _ Nat (fun k => ⟨[(2, .imm (.sl 28 (l.map env1))), (3, .ptr 0 1 0), (4, .ptr 1 1 0), (7, .row 6 1), (28, .imm (.sl 28 (l.map env1))), (29, .imm (.int .i64 (l.length : Nat))), (30, .imm (.int .i64 (k : Nat)))], [bxS a, bxE e, .dead 0, .dead 2, .dead 0, .dead 0, .row 49 28 1 ((((l.take k).filter (keepE e)).map env1).map .imm)]⟩) (fun k => k ≤ l.length) (fun k => l.length - k) 0 (Nat.zero_le _) (qSL 7 rfl rfl (hE := by (repeat ((conv => whnf); first | exact trivial | refine And.intro (by first | exact WkOne.any | exact WkOne.eq (by with_reducible rfl) rfl | exact WkOne.eq (congrArg (fun z => PV.imm (IV.int IntKind.i64 z)) (by first | omega | (simp [hml]; done) | (simp [hml]; omega))) rfl | exact WkOne.eq (by first | (simp [hml]; done) | fail) rfl | exact WkOne.eq rfl rfl | exact WkOne.le rfl (ILe.nil _)) ?_)))) ?_
   intro k hk
   have hho := Nat.lt_or_ge k l.length
   cases hho with
   | inl hlt =>
     obtain ⟨x, hx⟩ : ∃ x, l[k]? = some x := ⟨l[k], List.getElem?_eq_getElem hlt⟩
     have hRf := refers_pc x.it e.act e.item
     rw [imv_eq] at hRf
     have hrl : ((((l.take k).filter (keepE e)).map env1).map PV.imm).length ≤ k := by
       rw [List.length_map, List.length_map]
       refine Nat.le_trans (List.length_filter_le _ _) ?_
       rw [List.length_take]; omega
     have hkt : (l.take (k + 1)).filter (keepE e) = (l.take k).filter (keepE e) ++ [x].filter (keepE e) := by rw [take_at hx, List.filter_append]
     generalize (l.take k).filter (keepE e) = L0 at *
     by_cases h10 : x.it.kind = 10
     · rw [show [x].filter (keepE e) = [x] by simp [keepE, h10]] at hkt
       (try (conv => whnf)); (repeat ((first | refine qT ?_ | refine qF ?_ | refine qO ?_ | (with_reducible intro z hz); (first | (replace hz := hz (by omega); subst hz) | subst hz)); (try (conv => whnf))))
       refine Idx.mk k (env1 x) _ rfl (by simp [hx]) rfl ?_
       (try (conv => whnf)); (repeat ((first | refine qT ?_ | refine qF ?_ | refine qO ?_ | (with_reducible intro z hz); (first | (replace hz := hz (by omega); subst hz) | subst hz)); (try (conv => whnf))))
       refine Owe.mk (by show _ + 1 ≤ most; unfold most; omega) ?_
       (try (conv => whnf)); (repeat ((first | refine qT ?_ | refine qF ?_ | refine qO ?_ | (with_reducible intro z hz); (first | (replace hz := hz (by omega); subst hz) | subst hz)); (try (conv => whnf))))
       refine ⟨k + 1, by omega, by dsimp only; omega, ?_⟩
       dsimp only []
       rw [hkt]
       exact ((WeakA.row 6 (((L0 ++ [x]).map env1).map .imm) rfl (by simp [env1]))).trans ((WeakA.renew 6 1 rfl (by first | omega | (intro _; rw [hk0 _ _ rfl]; exact Nat.le_of_ble_eq_true rfl)) (by repeat (first | exact trivial | refine And.intro (rgL_imms _ _ _ _) ?_ | refine And.intro rfl ?_))).trans (qSL 7 rfl rfl))
     · cases hr : refers x.it e.act e.item with
       | true =>
         rw [hr] at hRf
         rw [show [x].filter (keepE e) = [x] by simp [keepE, hr]] at hkt
         (try (conv => whnf)); (repeat ((first | refine qT ?_ | refine qF ?_ | refine qO ?_ | (with_reducible intro z hz); (first | (replace hz := hz (by omega); subst hz) | subst hz)); (try (conv => whnf))))
         refine Idx.mk k (env1 x) _ rfl (by simp [hx]) rfl ?_
         (try (conv => whnf)); (repeat ((first | refine qT ?_ | refine qF ?_ | refine qO ?_ | (with_reducible intro z hz); (first | (replace hz := hz (by omega); subst hz) | subst hz) | (refine CallV.mk _ (hC _ _ _ (PCw.of hRf)) (fun js hjs => ?_); subst hjs)); (try (conv => whnf))))
         refine Owe.mk (by show _ + 1 ≤ most; unfold most; omega) ?_
         (try (conv => whnf)); (repeat ((first | refine qT ?_ | refine qF ?_ | refine qO ?_ | (with_reducible intro z hz); (first | (replace hz := hz (by omega); subst hz) | subst hz)); (try (conv => whnf))))
         refine ⟨k + 1, by omega, by dsimp only; omega, ?_⟩
         dsimp only []
         rw [hkt]
         exact ((WeakA.row 6 (((L0 ++ [x]).map env1).map .imm) rfl (by simp [env1]))).trans ((WeakA.renew 6 1 rfl (by first | omega | (intro _; rw [hk0 _ _ rfl]; exact Nat.le_of_ble_eq_true rfl)) (by repeat (first | exact trivial | refine And.intro (rgL_imms _ _ _ _) ?_ | refine And.intro rfl ?_))).trans (qSL 7 rfl rfl))
       | false =>
         rw [hr] at hRf
         rw [show [x].filter (keepE e) = [] by simp [keepE, hr, h10], List.append_nil] at hkt
         (try (conv => whnf)); (repeat ((first | refine qT ?_ | refine qF ?_ | refine qO ?_ | (with_reducible intro z hz); (first | (replace hz := hz (by omega); subst hz) | subst hz)); (try (conv => whnf))))
         refine Idx.mk k (env1 x) _ rfl (by simp [hx]) rfl ?_
         (try (conv => whnf)); (repeat ((first | refine qT ?_ | refine qF ?_ | refine qO ?_ | (with_reducible intro z hz); (first | (replace hz := hz (by omega); subst hz) | subst hz) | (refine CallV.mk _ (hC _ _ _ (PCw.of hRf)) (fun js hjs => ?_); subst hjs)); (try (conv => whnf))))
         refine ⟨k + 1, by omega, by dsimp only; omega, ?_⟩
         dsimp only []
         rw [hkt]
         exact (qSL 7 rfl rfl)
   | inr hge =>
     obtain rfl : k = l.length := by omega
     rw [List.take_length]
     (try (conv => whnf)); (repeat ((first | refine qT ?_ | refine qF ?_ | refine qO ?_ | (with_reducible intro z hz); (first | (replace hz := hz (by omega); subst hz) | subst hz) | (refine CallV.mk _ (hC _ _ _ (PCw.of hI)) (fun js hjs => ?_); subst hjs)); (try (conv => whnf))))
     refine Imms.mk ((l.filter (keepE e)).map env1) rfl ?_
     (try (conv => whnf)); (repeat ((first | refine qT ?_ | refine qF ?_ | refine qO ?_ | (with_reducible intro z hz); (first | (replace hz := hz (by omega); subst hz) | subst hz) | (refine CallV.mk _ (hC _ _ _ (PCw.of hI2)) (fun js hjs => ?_); subst hjs) | (refine CallV.mk _ (hC _ _ _ (PCw.of hQ)) (fun js hjs => ?_); subst hjs)); (try (conv => whnf))))
     exact hfin _ (ILes.refl _)
theorem irrelevantL (a : St) (ha : FitS a) (e : En) (he : FitI e.it) (l : List En) (w : l.length * 392 ≤ 140737488351232 ∧ ∀ x ∈ l, FitI x.it) : PC Try.prog env0 7 [stv a, env1 e, .sl 28 (l.map env1)] [.bool true] := by
 refine lawIrrelevant a e l ?_ (.of he w.1 w.2)
 unfold FitS maxLen at ha
 omega
end Go.Proofs.Ytmgjpmjmondplaa.Pe
