/-
  The reference's Units.
-/
import Derived.Test.YtopohipcpomecaaDoorWDl
namespace Go.Proofs.YtopohipcpomecaaDoor.Pd
open Go Go.Pv Go.RowKit Go.Proofs.YtopohipcpomecaaDoor.Pu Go.Proofs.YtopohipcpomecaaDoor.Pb
set_option linter.unusedSimpArgs false
open Lab Lcs Go.Proofs.YtopohipcpomecaaDoor
set_option maxRecDepth 10000
set_option maxHeartbeats 16000000
theorem alls_at {l : List Ut} {k : Nat} {x : Ut} (h : l[k]? = some x) : Ut.alls (l.take (k + 1)) = Ut.alls (l.take k) ++ x.all := by
 rw [take_at h, alls_app]
 simp [Ut.alls]
theorem units_pc (N : Nat) : ∀ u : Ut, u.count ≤ N → u.count ≤ 1000000 → PC Tryd.prog envH 22 [uv u] [.sl 8 (u.all.map uv)] := by
 induction N with
 | zero => intro u h; have := count_pos u; omega
 | succ N ih =>
 intro u hN hc
 have hue := uv_eq u
 have hkl : (u.kids.map uv).length = u.kids.length := List.length_map _
 rw [hue, Ut.all_eq]
 refine PC.of_va (T := tbi) eqs_ok tbi_ok rfl mixed Tryd.func22 rfl rfl (Nat.le_of_ble_eq_true rfl) ?_; intro Γ C WK LP fin h0 hW hC hB hR hLP hfin
 (try (conv => whnf)); (repeat ((first | refine qT ?_ | refine qF ?_ | refine qO ?_ | (with_reducible intro z hz); (first | (replace hz := hz (by omega); subst hz) | subst hz)); (try (conv => whnf))))
 refine hLP _ _ _ Nat (fun k => ⟨[(1, .ptr 0 1 0), (3, .row 1 1), (4, .imm (.int .i64 (k : Nat)))], [.box 1 [.imm (.int .i64 u.id.x), .imm (.int .i64 u.id.y), .imm (.int .i64 u.id.z), .imm (.int .i64 u.kind), .imm (.str u.label), .imm (.sl 4 (u.head.map wdv)), .imm (.sl 4 (u.words.map wdv)), .imm (.sl 8 (u.kids.map uv))], .row 30 8 1 (((u :: Ut.alls (u.kids.take k)).map uv).map .imm)]⟩) (fun k => k ≤ u.kids.length) (fun k => u.kids.length - k) 0 (Nat.zero_le _) ((WeakA.row 1 ((((u :: Ut.alls (u.kids.take 0)).map uv).map .imm)) rfl (by rw [List.take_zero]; simp [Ut.alls, hue])).trans (qSL 2 rfl rfl)) ?_
 intro k hk
 have hho := Nat.lt_or_ge k u.kids.length
 cases hho with
 | inl hlt =>
   refine (?_ : ∀ Q : Exit → AS → Prop, vcS _ _ _ _ _ _ _ (loopQA _ _ _ _ _ _ Q)) _; intro Q
   obtain ⟨x, hx⟩ : ∃ x, u.kids[k]? = some x := ⟨u.kids[k], List.getElem?_eq_getElem hlt⟩
   obtain ⟨h1, h2, h3, h4⟩ := kid_lt' hx
   have hux := uv_eq x
   have hI := ih x (by omega) (by omega)
   have hat := alls_at hx
   have hxl : x.all.length = x.count := all_length x
   have hrl : (Ut.alls (u.kids.take k)).length = Ut.counts (u.kids.take k) := by
     have : ∀ l : List Ut, (Ut.alls l).length = Ut.counts l := by
       intro l
       induction l with
       | nil => simp [Ut.alls, Ut.counts]
       | cons y r ihr => simp only [Ut.alls, Ut.counts, List.length_append, all_length, ihr]
     exact this _
   have hr1 : (((u :: Ut.alls (u.kids.take k)).map uv).map PV.imm).length = Ut.counts (u.kids.take k) + 1 := by simp [hrl]
   have hr2 : (x.all.map uv).length = x.count := by simp [hxl]
   rw [hux] at hI
   (try (conv => whnf)); (repeat ((first | refine qT ?_ | refine qF ?_ | refine qO ?_ | (with_reducible intro z hz); (first | (replace hz := hz (by omega); subst hz) | subst hz)); (try (conv => whnf))))
   refine Idx.mk k (uv x) _ rfl (by simp [hx]) (by rw [hux]; try rfl) ?_
   (try (conv => whnf)); (repeat ((first | refine qT ?_ | refine qF ?_ | refine qO ?_ | (with_reducible intro z hz); (first | (replace hz := hz (by omega); subst hz) | subst hz) | (refine CallV.mk _ (hC _ _ _ (PCw.of hI)) (fun js hjs => ?_); subst hjs)); (try (conv => whnf))))
   exact ⟨k + 1, by omega, by dsimp only; omega, ((WeakA.row 1 ((((u :: Ut.alls (u.kids.take (k + 1))).map uv).map .imm)) rfl (by rw [hat]; simp))).trans ((WeakA.renew 1 1 rfl (by first | omega | (intro _; rw [hk0 _ _ rfl]; exact Nat.le_of_ble_eq_true rfl)) (by repeat (first | exact trivial | refine And.intro (rgL_imms _ _ _ _) ?_ | refine And.intro rfl ?_))).trans (qSL 2 rfl rfl))⟩
 | inr hge =>
   obtain rfl : k = u.kids.length := by omega
   rw [List.take_length]
   (try (conv => whnf)); (repeat ((first | refine qT ?_ | refine qF ?_ | refine qO ?_ | (with_reducible intro z hz); (first | (replace hz := hz (by omega); subst hz) | subst hz)); (try (conv => whnf))))
   refine Imms.mk ((u :: Ut.alls u.kids).map uv) rfl ?_
   (try (conv => whnf)); (repeat ((first | refine qT ?_ | refine qF ?_ | refine qO ?_ | (with_reducible intro z hz); (first | (replace hz := hz (by omega); subst hz) | subst hz)); (try (conv => whnf))))
   exact hfin _ (ILes.refl _)
end Go.Proofs.YtopohipcpomecaaDoor.Pd
