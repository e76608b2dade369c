/-
  The days in force, by the program.
-/
import Derived.Test.YtmgjpmjmondplaaWAi
namespace Go.Proofs.Ytmgjpmjmondplaa.Pe
open Go Go.Pv Go.RowKit
set_option linter.unusedSimpArgs false
open Spans Rm
set_option maxRecDepth 10000
set_option maxHeartbeats 16000000
theorem inforce_pc (a : St) (e : En) (l : List En) (hl : l.length ≤ 1000) : PC Try.prog env0 21 [stv a, env1 e, .sl 28 (l.map env1)] [.sl 2 ((forceL a e l).map spv)] := by
 have hml : (l.map env1).length = l.length := List.length_map _
 unfold forceL
 by_cases hk0 : 0 ≤ e.it.kind
 rotate_left
 · rw [if_neg (fun h => hk0 h.1)]
   rw [env_eq e]
   unfold stv
   refine PC.of_va (T := tbe) eqs_ok tbe_ok rfl mixed Try.func21 rfl rfl (Nat.le_of_ble_eq_true rfl) ?_; intro Γ C WK LP fin h0 hW hC hB hR hLP hfin
   (try (conv => whnf)); (repeat ((first | refine qT ?_ | refine qF ?_ | refine qO ?_ | (with_reducible intro z hz); (first | (replace hz := hz (by omega); subst hz) | subst hz)); (try (conv => whnf))))
   exact hfin _ (.cons (ILe.nil _) (.refl _))
 by_cases hk6 : e.it.kind ≤ 6
 rotate_left
 · rw [if_neg (fun h => hk6 h.2)]
   rw [env_eq e]
   unfold stv
   refine PC.of_va (T := tbe) eqs_ok tbe_ok rfl mixed Try.func21 rfl rfl (Nat.le_of_ble_eq_true rfl) ?_; intro Γ C WK LP fin h0 hW hC hB hR hLP hfin
   (try (conv => whnf)); (repeat ((first | refine qT ?_ | refine qF ?_ | refine qO ?_ | (with_reducible intro z hz); (first | (replace hz := hz (by omega); subst hz) | subst hz)); (try (conv => whnf))))
   exact hfin _ (.cons (ILe.nil _) (.refl _))
 rw [if_pos ⟨hk0, hk6⟩]
 have hX := effective_pc a e.it.st
 have hI := initial_pc (effS a e.it.st) l (by omega)
 have hM := effects_pcb
 generalize hr : effS a e.it.st = r at *
 have hP0 := dayP_has (stD r l)
 generalize dayP (stD r l) = P0 at *
 rw [env_eq e]
 unfold stv at *
 refine PC.of_va (T := tbe) eqs_ok tbe_ok rfl mixed Try.func21 rfl rfl (Nat.le_of_ble_eq_true rfl) ?_; intro Γ C WK LP fin h0 hW hC hB hR hLP hfin
 (try (conv => whnf)); (repeat ((first | refine qT ?_ | refine qF ?_ | refine qO ?_ | (with_reducible intro z hz); (first | (replace hz := hz (by omega); subst hz) | subst hz) | (refine CallV.mk _ (hC _ _ _ (PCw.of hX)) (fun js hjs => ?_); subst hjs) | (refine CallV.mk _ (hC _ _ _ (PCw.of hI)) (fun js hjs => ?_); subst hjs)); (try (conv => whnf))))
 refine CallB.mk ([.row 0 2]) ([.map (.int .i64) 2 effM]) (hB _ _ _ _ _ (hM)) ?_
 (try (conv => whnf)); (repeat ((first | refine qT ?_ | refine qF ?_ | refine qO ?_ | (with_reducible intro z hz); (first | (replace hz := hz (by omega); subst hz) | subst hz)); (try (conv => whnf))))
 have hml : (l.map env1).length = l.length := List.length_map _
 refine hLP _ _ _ Nat (fun k => ⟨[(4, .ptr 1 1 0), (7, .imm (.sl 2 ((canon (daysP P0 e (l.take k))).map spv))), (8, .row 4 1), (31, .imm (.sl 28 (l.map env1))), (32, .imm (.int .i64 (l.length : Nat))), (33, .imm (.int .i64 (k : Nat)))], [bxS a, bxE e, .dead 0, .dead 0, .map (.int .i64) 1 effM]⟩) (fun k => k ≤ l.length) (fun k => l.length - k) 0 (Nat.zero_le _) (qSL 5 rfl rfl (hE := by (repeat ((conv => whnf); first | exact trivial | refine And.intro (by first | exact WkOne.any | exact WkOne.eq (by with_reducible rfl) rfl | exact WkOne.eq (congrArg (fun z => PV.imm (IV.int IntKind.i64 z)) (by first | omega | (simp [hml]; done) | (simp [hml]; omega))) rfl | exact WkOne.eq (by first | (simp [hml]; done) | fail) rfl | exact WkOne.eq rfl rfl | exact WkOne.le rfl (ILe.nil _)) ?_)))) ?_
 intro k hk
 have hho := Nat.lt_or_ge k l.length
 cases hho with
 | inl hlt =>
   obtain ⟨x, hx⟩ : ∃ x, l[k]? = some x := ⟨l[k], List.getElem?_eq_getElem hlt⟩
   have hst := days_take (P := P0) (e := e) hx
   have hPk : HasC (daysP P0 e (l.take k)) (1 + (l.take k).length) := days_has hP0
   rw [List.length_take, Nat.min_eq_left hk] at hPk
   generalize daysP P0 e (l.take k) = P at *
   have hRf := refers_pc x.it e.act e.item
   rw [imv_eq] at hRf
   have hlen := hPk.2
   by_cases h7 : x.it.kind = 7 ∨ x.it.kind = 9
   · have hlk : lookM effM (.int .i64 x.it.kind) = some (.fn 29) := by rcases h7 with h | h <;> rw [h] <;> rfl
     cases hr : refers x.it e.act e.item with
     | true =>
       rw [hr] at hRf
       rw [step_ext hr h7] at hst
       have hX2 := extend_pc (canon P) x.it.d (by omega)
       rw [ext_canon hPk] at hX2
       (try (conv => whnf)); (repeat ((first | refine qT ?_ | refine qF ?_ | refine qO ?_ | (with_reducible intro z hz); (first | (replace hz := hz (by omega); subst hz) | subst hz)); (try (conv => whnf))))
       refine Idx.mk k (env1 x) _ rfl (by simp [hx]) rfl ?_
       (try (conv => whnf)); (repeat ((first | refine qT ?_ | refine qF ?_ | refine qO ?_ | (with_reducible intro z hz); (first | (replace hz := hz (by omega); subst hz) | subst hz)); (try (conv => whnf))))
       refine LookK.mk (.fn 29) true (by rw [hlk]; rfl) (by rw [hlk]; rfl) ?_
       (try (conv => whnf)); (repeat ((first | refine qT ?_ | refine qF ?_ | refine qO ?_ | (with_reducible intro z hz); (first | (replace hz := hz (by omega); subst hz) | subst hz) | (refine CallV.mk _ (hC _ _ _ (PCw.of hRf)) (fun js hjs => ?_); subst hjs) | (refine CallV.mk _ (hC _ _ _ (PCw.of hX2)) (fun js hjs => ?_); subst hjs)); (try (conv => whnf))))
       refine ⟨k + 1, by omega, by dsimp only; omega, ?_⟩
       dsimp only []
       rw [hst]
       exact (qSL 5 rfl rfl)
     | false =>
       rw [hr] at hRf
       rw [step_no hr] at hst
       (try (conv => whnf)); (repeat ((first | refine qT ?_ | refine qF ?_ | refine qO ?_ | (with_reducible intro z hz); (first | (replace hz := hz (by omega); subst hz) | subst hz)); (try (conv => whnf))))
       refine Idx.mk k (env1 x) _ rfl (by simp [hx]) rfl ?_
       (try (conv => whnf)); (repeat ((first | refine qT ?_ | refine qF ?_ | refine qO ?_ | (with_reducible intro z hz); (first | (replace hz := hz (by omega); subst hz) | subst hz)); (try (conv => whnf))))
       refine LookK.mk (.fn 29) true (by rw [hlk]; rfl) (by rw [hlk]; rfl) ?_
       (try (conv => whnf)); (repeat ((first | refine qT ?_ | refine qF ?_ | refine qO ?_ | (with_reducible intro z hz); (first | (replace hz := hz (by omega); subst hz) | subst hz) | (refine CallV.mk _ (hC _ _ _ (PCw.of hRf)) (fun js hjs => ?_); subst hjs)); (try (conv => whnf))))
       refine ⟨k + 1, by omega, by dsimp only; omega, ?_⟩
       dsimp only []
       rw [hst]
       exact (qSL 5 rfl rfl)
   by_cases h8 : x.it.kind = 8
   · have hlk : lookM effM (.int .i64 x.it.kind) = some (.fn 38) := by rw [h8]; rfl
     cases hr : refers x.it e.act e.item with
     | true =>
       rw [hr] at hRf
       rw [step_trunc hr h8] at hst
       have hX2 := truncate_pc (canon P) x.it.d (by omega)
       rw [trunc_canon hPk] at hX2
       (try (conv => whnf)); (repeat ((first | refine qT ?_ | refine qF ?_ | refine qO ?_ | (with_reducible intro z hz); (first | (replace hz := hz (by omega); subst hz) | subst hz)); (try (conv => whnf))))
       refine Idx.mk k (env1 x) _ rfl (by simp [hx]) rfl ?_
       (try (conv => whnf)); (repeat ((first | refine qT ?_ | refine qF ?_ | refine qO ?_ | (with_reducible intro z hz); (first | (replace hz := hz (by omega); subst hz) | subst hz)); (try (conv => whnf))))
       refine LookK.mk (.fn 38) true (by rw [hlk]; rfl) (by rw [hlk]; rfl) ?_
       (try (conv => whnf)); (repeat ((first | refine qT ?_ | refine qF ?_ | refine qO ?_ | (with_reducible intro z hz); (first | (replace hz := hz (by omega); subst hz) | subst hz) | (refine CallV.mk _ (hC _ _ _ (PCw.of hRf)) (fun js hjs => ?_); subst hjs) | (refine CallV.mk _ (hC _ _ _ (PCw.of hX2)) (fun js hjs => ?_); subst hjs)); (try (conv => whnf))))
       refine ⟨k + 1, by omega, by dsimp only; omega, ?_⟩
       dsimp only []
       rw [hst]
       exact (qSL 5 rfl rfl)
     | false =>
       rw [hr] at hRf
       rw [step_no hr] at hst
       (try (conv => whnf)); (repeat ((first | refine qT ?_ | refine qF ?_ | refine qO ?_ | (with_reducible intro z hz); (first | (replace hz := hz (by omega); subst hz) | subst hz)); (try (conv => whnf))))
       refine Idx.mk k (env1 x) _ rfl (by simp [hx]) rfl ?_
       (try (conv => whnf)); (repeat ((first | refine qT ?_ | refine qF ?_ | refine qO ?_ | (with_reducible intro z hz); (first | (replace hz := hz (by omega); subst hz) | subst hz)); (try (conv => whnf))))
       refine LookK.mk (.fn 38) true (by rw [hlk]; rfl) (by rw [hlk]; rfl) ?_
       (try (conv => whnf)); (repeat ((first | refine qT ?_ | refine qF ?_ | refine qO ?_ | (with_reducible intro z hz); (first | (replace hz := hz (by omega); subst hz) | subst hz) | (refine CallV.mk _ (hC _ _ _ (PCw.of hRf)) (fun js hjs => ?_); subst hjs)); (try (conv => whnf))))
       refine ⟨k + 1, by omega, by dsimp only; omega, ?_⟩
       dsimp only []
       rw [hst]
       exact (qSL 5 rfl rfl)
   have hlk := eff_none (k := x.it.kind) (by omega) h8 (by omega)
   rw [step_other (by omega) h8 (by omega)] at hst
   (try (conv => whnf)); (repeat ((first | refine qT ?_ | refine qF ?_ | refine qO ?_ | (with_reducible intro z hz); (first | (replace hz := hz (by omega); subst hz) | subst hz)); (try (conv => whnf))))
   refine Idx.mk k (env1 x) _ rfl (by simp [hx]) rfl ?_
   (try (conv => whnf)); (repeat ((first | refine qT ?_ | refine qF ?_ | refine qO ?_ | (with_reducible intro z hz); (first | (replace hz := hz (by omega); subst hz) | subst hz)); (try (conv => whnf))))
   refine LookK.mk .nf false (by rw [hlk]; rfl) (by rw [hlk]; rfl) ?_
   (try (conv => whnf)); (repeat ((first | refine qT ?_ | refine qF ?_ | refine qO ?_ | (with_reducible intro z hz); (first | (replace hz := hz (by omega); subst hz) | subst hz)); (try (conv => whnf))))
   refine ⟨k + 1, by omega, by dsimp only; omega, ?_⟩
   dsimp only []
   rw [hst]
   exact (qSL 5 rfl rfl)
 | inr hge =>
   obtain rfl : k = l.length := by omega
   rw [List.take_length]
   (try (conv => whnf)); (repeat ((first | refine qT ?_ | refine qF ?_ | refine qO ?_ | (with_reducible intro z hz); (first | (replace hz := hz (by omega); subst hz) | subst hz)); (try (conv => whnf))))
   exact hfin _ (ILes.refl _)
end Go.Proofs.Ytmgjpmjmondplaa.Pe
