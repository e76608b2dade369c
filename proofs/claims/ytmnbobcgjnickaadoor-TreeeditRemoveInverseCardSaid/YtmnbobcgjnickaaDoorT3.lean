/-
  TreeeditRemoveInverse. TreeeditRemoveInverse, for arguments that came in.
-/
import Derived.Test.YtmnbobcgjnickaaDoorT2
import Derived.Test.YtmnbobcgjnickaaDoorT1
namespace Go.Proofs.YtmnbobcgjnickaaDoor.Pt
open Go Go.Pv Go.RowKit
set_option linter.unusedSimpArgs false
open Lab Lcs Go.Proofs.YtmnbobcgjnickaaDoor Go.Proofs.YtmnbobcgjnickaaDoor.Pu
set_option maxRecDepth 10000
set_option maxHeartbeats 16000000
theorem remInv_pc (u : Ut) (hok : okU u) (p : Trip) (z : Int) (x : Ut) (hok2 : okU x) (id : Trip) : PC Tryd.prog env0 4 [uv u, idv p, .int .i64 z, uv x, idv id] [.bool true] := by
 have hF1 := few_pc u 30 hok (by omega) (by omega)
 have hF2 := few_pc x 30 hok2 (by omega) (by omega)
 have hue := uv_eq u
 have hxe := uv_eq x
 have hAw := awake8_pc
 have hpe : idv p = .agg [.int .i64 p.x, .int .i64 p.y, .int .i64 p.z] := rfl
 have hie : idv id = .agg [.int .i64 id.x, .int .i64 id.y, .int .i64 id.z] := rfl
 by_cases hf1 : fewU u 30 = true
 rotate_left
 · rw [Bool.not_eq_true] at hf1
   rw [hf1] at hF1
   rw [hue] at hF1 ⊢
   rw [hxe]
   refine PC.of_va (T := tb0) eqs_ok tb_ok rfl mixed Tryd.func4 rfl rfl (Nat.le_of_ble_eq_true rfl) ?_; intro Γ C WK LP fin h0 hW hC hB hR hLP hfin
   (try (conv => whnf)); (repeat ((first | refine qT ?_ | refine qF ?_ | refine qO ?_ | (with_reducible intro z hz); (first | (replace hz := hz (by omega); subst hz) | subst hz) | (refine CallV.mk _ (hC _ _ _ (PCw.of hF1)) (fun js hjs => ?_); subst hjs) | (refine CallV.mk _ (hC _ _ _ (PCw.of hAw)) (fun js hjs => ?_); subst hjs)); (try (conv => whnf))))
   exact hfin _ (ILes.refl _)
 by_cases hf2 : fewU x 30 = true
 rotate_left
 · rw [Bool.not_eq_true] at hf2
   rw [hf1] at hF1
   rw [hf2] at hF2
   rw [hue] at hF1 ⊢
   rw [hxe] at hF2 ⊢
   refine PC.of_va (T := tb0) eqs_ok tb_ok rfl mixed Tryd.func4 rfl rfl (Nat.le_of_ble_eq_true rfl) ?_; intro Γ C WK LP fin h0 hW hC hB hR hLP hfin
   (try (conv => whnf)); (repeat ((first | refine qT ?_ | refine qF ?_ | refine qO ?_ | (with_reducible intro z hz); (first | (replace hz := hz (by omega); subst hz) | subst hz) | (refine CallV.mk _ (hC _ _ _ (PCw.of hF1)) (fun js hjs => ?_); subst hjs) | (refine CallV.mk _ (hC _ _ _ (PCw.of hF2)) (fun js hjs => ?_); subst hjs) | (refine CallV.mk _ (hC _ _ _ (PCw.of hAw)) (fun js hjs => ?_); subst hjs)); (try (conv => whnf))))
   exact hfin _ (ILes.refl _)
 rw [hf1] at hF1
 rw [hf2] at hF2
 obtain ⟨hc, hM, hs⟩ := few30 hf1
 obtain ⟨hc2, hM2, hs2⟩ := few30 hf2
 have hSu := same_pc u u hok hok
 have hSx := same_pc x x hok2 hok2
 rw [decide_eq_true rfl] at hSu hSx
 by_cases ha : insE u p z x = 0
 · obtain ⟨v, hIn, hRm⟩ := ins_rem u x p z hok hM hok2 hM2 (by omega) (by omega) ha
   have hxid : idv x.id = .agg [.int .i64 x.id.x, .int .i64 x.id.y, .int .i64 x.id.z] := rfl
   rw [uv_eq v] at hIn hRm
   rw [hxid] at hRm
   by_cases hb : remE u id = 0
   · obtain ⟨rest, y, q, j, o1, o2, hpar, hRe, hIb⟩ := rem_ins u id hok hM (by omega) hb
     have hPa := rparent_pc id u.count u (Nat.le_refl _) (by omega)
     rw [hpar] at hPa
     have hqe : idv q = .agg [.int .i64 q.x, .int .i64 q.y, .int .i64 q.z] := rfl
     rw [uv_eq rest, uv_eq y] at hRe hIb
     rw [hqe] at hIb
     dsimp only at hPa
     rw [hqe] at hPa
     rw [hue] at hF1 hIn hRm hRe hPa hIb hSu ⊢
     rw [hxe] at hF2 hIn hRm hSx ⊢
     refine PC.of_va (T := tb0) eqs_ok tb_ok rfl mixed Tryd.func4 rfl rfl (Nat.le_of_ble_eq_true rfl) ?_; intro Γ C WK LP fin h0 hW hC hB hR hLP hfin
     (try (conv => whnf)); (repeat ((first | refine qT ?_ | refine qF ?_ | refine qO ?_ | (with_reducible intro z hz); (first | (replace hz := hz (by omega); subst hz) | subst hz) | (refine CallV.mk _ (hC _ _ _ (PCw.of hF1)) (fun js hjs => ?_); subst hjs) | (refine CallV.mk _ (hC _ _ _ (PCw.of hF2)) (fun js hjs => ?_); subst hjs) | (refine CallV.mk _ (hC _ _ _ (PCw.of hIn)) (fun js hjs => ?_); subst hjs) | (refine CallV.mk _ (hC _ _ _ (PCw.of hRm)) (fun js hjs => ?_); subst hjs) | (refine CallV.mk _ (hC _ _ _ (PCw.of hSu)) (fun js hjs => ?_); subst hjs) | (refine CallV.mk _ (hC _ _ _ (PCw.of hSx)) (fun js hjs => ?_); subst hjs) | (refine CallV.mk _ (hC _ _ _ (PCw.of hRe)) (fun js hjs => ?_); subst hjs) | (refine CallV.mk _ (hC _ _ _ (PCw.of hPa)) (fun js hjs => ?_); subst hjs) | (refine CallV.mk _ (hC _ _ _ (PCw.of hIb)) (fun js hjs => ?_); subst hjs) | (refine CallV.mk _ (hC _ _ _ (PCw.of hSu)) (fun js hjs => ?_); subst hjs) | (refine CallV.mk _ (hC _ _ _ (PCw.of hAw)) (fun js hjs => ?_); subst hjs)); (try (conv => whnf))))
     exact hfin _ (ILes.refl _)
   · have hRe := remove_pc u id u u hok hM (by omega) (fun h => absurd h hb)
     unfold remV at hRe
     rw [if_neg hb] at hRe
     generalize remE u id = e at hRe hb
     rw [uv_zero] at hRe
     rw [hue] at hF1 hIn hRm hRe hSu ⊢
     rw [hxe] at hF2 hIn hRm hSx ⊢
     refine PC.of_va (T := tb0) eqs_ok tb_ok rfl mixed Tryd.func4 rfl rfl (Nat.le_of_ble_eq_true rfl) ?_; intro Γ C WK LP fin h0 hW hC hB hR hLP hfin
     (try (conv => whnf)); (repeat ((first | refine qT ?_ | refine qF ?_ | refine qO ?_ | (with_reducible intro z hz); (first | (replace hz := hz (by omega); subst hz) | subst hz) | (refine CallV.mk _ (hC _ _ _ (PCw.of hF1)) (fun js hjs => ?_); subst hjs) | (refine CallV.mk _ (hC _ _ _ (PCw.of hF2)) (fun js hjs => ?_); subst hjs) | (refine CallV.mk _ (hC _ _ _ (PCw.of hIn)) (fun js hjs => ?_); subst hjs) | (refine CallV.mk _ (hC _ _ _ (PCw.of hRm)) (fun js hjs => ?_); subst hjs) | (refine CallV.mk _ (hC _ _ _ (PCw.of hSu)) (fun js hjs => ?_); subst hjs) | (refine CallV.mk _ (hC _ _ _ (PCw.of hSx)) (fun js hjs => ?_); subst hjs) | (refine CallV.mk _ (hC _ _ _ (PCw.of hRe)) (fun js hjs => ?_); subst hjs) | (refine CallV.mk _ (hC _ _ _ (PCw.of hAw)) (fun js hjs => ?_); subst hjs)); (try (conv => whnf))))
     exact hfin _ (ILes.refl _)
 · have hIn := insert_no_pc u p z x (insE u p z x) ha (ie_pc u x p z hok hM hok2 hM2 (by omega) (by omega))
   generalize insE u p z x = e' at hIn ha
   rw [uv_zero] at hIn
   by_cases hb : remE u id = 0
   · obtain ⟨rest, y, q, j, o1, o2, hpar, hRe, hIb⟩ := rem_ins u id hok hM (by omega) hb
     have hPa := rparent_pc id u.count u (Nat.le_refl _) (by omega)
     rw [hpar] at hPa
     have hqe : idv q = .agg [.int .i64 q.x, .int .i64 q.y, .int .i64 q.z] := rfl
     rw [uv_eq rest, uv_eq y] at hRe hIb
     rw [hqe] at hIb
     dsimp only at hPa
     rw [hqe] at hPa
     rw [hue] at hF1 hIn hRe hPa hIb hSu ⊢
     rw [hxe] at hF2 hIn ⊢
     refine PC.of_va (T := tb0) eqs_ok tb_ok rfl mixed Tryd.func4 rfl rfl (Nat.le_of_ble_eq_true rfl) ?_; intro Γ C WK LP fin h0 hW hC hB hR hLP hfin
     (try (conv => whnf)); (repeat ((first | refine qT ?_ | refine qF ?_ | refine qO ?_ | (with_reducible intro z hz); (first | (replace hz := hz (by omega); subst hz) | subst hz) | (refine CallV.mk _ (hC _ _ _ (PCw.of hF1)) (fun js hjs => ?_); subst hjs) | (refine CallV.mk _ (hC _ _ _ (PCw.of hF2)) (fun js hjs => ?_); subst hjs) | (refine CallV.mk _ (hC _ _ _ (PCw.of hIn)) (fun js hjs => ?_); subst hjs) | (refine CallV.mk _ (hC _ _ _ (PCw.of hRe)) (fun js hjs => ?_); subst hjs) | (refine CallV.mk _ (hC _ _ _ (PCw.of hPa)) (fun js hjs => ?_); subst hjs) | (refine CallV.mk _ (hC _ _ _ (PCw.of hIb)) (fun js hjs => ?_); subst hjs) | (refine CallV.mk _ (hC _ _ _ (PCw.of hSu)) (fun js hjs => ?_); subst hjs) | (refine CallV.mk _ (hC _ _ _ (PCw.of hAw)) (fun js hjs => ?_); subst hjs)); (try (conv => whnf))))
     exact hfin _ (ILes.refl _)
   · have hRe := remove_pc u id u u hok hM (by omega) (fun h => absurd h hb)
     unfold remV at hRe
     rw [if_neg hb] at hRe
     generalize remE u id = e at hRe hb
     rw [uv_zero] at hRe
     rw [hue] at hF1 hIn hRe hSu ⊢
     rw [hxe] at hF2 hIn ⊢
     refine PC.of_va (T := tb0) eqs_ok tb_ok rfl mixed Tryd.func4 rfl rfl (Nat.le_of_ble_eq_true rfl) ?_; intro Γ C WK LP fin h0 hW hC hB hR hLP hfin
     (try (conv => whnf)); (repeat ((first | refine qT ?_ | refine qF ?_ | refine qO ?_ | (with_reducible intro z hz); (first | (replace hz := hz (by omega); subst hz) | subst hz) | (refine CallV.mk _ (hC _ _ _ (PCw.of hF1)) (fun js hjs => ?_); subst hjs) | (refine CallV.mk _ (hC _ _ _ (PCw.of hF2)) (fun js hjs => ?_); subst hjs) | (refine CallV.mk _ (hC _ _ _ (PCw.of hIn)) (fun js hjs => ?_); subst hjs) | (refine CallV.mk _ (hC _ _ _ (PCw.of hRe)) (fun js hjs => ?_); subst hjs) | (refine CallV.mk _ (hC _ _ _ (PCw.of hAw)) (fun js hjs => ?_); subst hjs)); (try (conv => whnf))))
     exact hfin _ (ILes.refl _)
end Go.Proofs.YtmnbobcgjnickaaDoor.Pt
namespace Go.Proofs.YtmnbobcgjnickaaDoor.Pt
open Go Go.Pv Go.Proofs.YtmnbobcgjnickaaDoor Go.Proofs.YtmnbobcgjnickaaDoor.Pu Lab Lcs Go.RowKit
theorem remInvL (u : Ut) (h : Fit u) (p : Trip) (_hp : p.ok) (z : Int) (x : Ut) (h2 : Fit x) (t : Trip) (_ht : t.ok) : PC Tryd.prog env0 4 [uv u, idv p, .int .i64 z, uv x, idv t] [.bool true] := remInv_pc u h.ok p z x h2.ok t
end Go.Proofs.YtmnbobcgjnickaaDoor.Pt
