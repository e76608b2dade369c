/-
  Comparisons of instructions and of enacted items.
-/
import Derived.Test.YtglkpmhamekpmaaGreatWCt
namespace Go.Proofs.YtglkpmhamekpmaaGreat.Po
open Go Go.Pv Go.RowKit
set_option linter.unusedSimpArgs false
open Lab Lcs Go.Proofs.YtglkpmhamekpmaaGreat Go.Proofs.YtglkpmhamekpmaaGreat.Pu
set_option maxRecDepth 10000
set_option maxHeartbeats 64000000
theorem CpI.len {x : It} (h : CpI x) : CpU x.unit ∧ x.p.length ≤ 1000000000 ∧ x.q.length ≤ 1000000000 ∧ x.old.length ≤ 1000000000 ∧ x.new.length ≤ 1000000000 ∧ x.bys.length ≤ 1000000000 := by cases h; exact ⟨by assumption, by assumption⟩
theorem It.ext' {x y : It} (h0 : x.kind = y.kind) (h1 : x.p = y.p) (h2 : x.q = y.q) (h3 : x.z = y.z) (h4 : x.nth = y.nth) (h5 : x.unit = y.unit) (h6 : x.old = y.old) (h7 : x.new = y.new) (h8 : x.lb = y.lb) (h9 : x.fr = y.fr) (h10 : x.sk = y.sk) (h11 : x.sd = y.sd) (h12 : x.se = y.se) (h13 : x.a = y.a) (h14 : x.i = y.i) (h15 : x.d = y.d) (h16 : x.ev = y.ev) (h17 : x.bys = y.bys) : x = y := by
 cases x; cases y
 simp only [It.kind, It.p, It.q, It.z, It.nth, It.unit, It.old, It.new, It.lb, It.fr, It.sk, It.sd, It.se, It.a, It.i, It.d, It.ev, It.bys] at *
 subst h0 h1 h2 h3 h4 h5 h6 h7 h8 h9 h10 h11 h12 h13 h14 h15 h16 h17
 rfl
theorem same17_pc (x : It) (hx0 : CpI x) : ∀ y : It, CpI y → PC Tryz.prog env0 14 [itv x, itv y] [.bool (decide (x = y))] := by
 induction hx0 with
 | mk x hu h hk ih =>
 obtain ⟨g1, g2, g3, g4, g5⟩ := h
 intro y hy0
 obtain ⟨hv, k1, k2, k3, k4, k5⟩ := hy0.len
 have hst := start_eqC x.sk x.sd y.sk y.sd x.se y.se
 have h1 := same7_pc x.p y.p g1 k1
 have h2 := same7_pc x.q y.q g2 k2
 have h6 := same4_pc x.old y.old g3 k3
 have h7 := same4_pc x.new y.new g4 k4
 have h5 := same6_pc x.unit hu y.unit hv
 rw [uv_eq x.unit, uv_eq y.unit] at h5
 have hxl : (x.bys.map itv).length = x.bys.length := List.length_map _
 have hyl : (y.bys.map itv).length = y.bys.length := List.length_map _
 rw [itv_eq x, itv_eq y]
 by_cases c0 : x.kind = y.kind
 rotate_left
 · rw [decide_eq_false (fun e => c0 (by rw [e]))]
   refine PC.of_va (T := tbq) eqsQ_ok tbq_ok rfl mixed Tryz.func14 rfl rfl (Nat.le_of_ble_eq_true rfl) ?_; intro Γ C WK LP fin h0 hW hC hB hR hLP hfin
   (try (conv => whnf)); (repeat ((first | refine qT ?_ | refine qF ?_ | refine qO ?_ | (with_reducible intro z hz); (first | (replace hz := hz (by omega); subst hz) | subst hz)); (try (conv => whnf))))
   exact hfin _ (ILes.refl _)
 by_cases c1 : x.z = y.z
 rotate_left
 · rw [decide_eq_false (fun e => c1 (by rw [e]))]
   refine PC.of_va (T := tbq) eqsQ_ok tbq_ok rfl mixed Tryz.func14 rfl rfl (Nat.le_of_ble_eq_true rfl) ?_; intro Γ C WK LP fin h0 hW hC hB hR hLP hfin
   (try (conv => whnf)); (repeat ((first | refine qT ?_ | refine qF ?_ | refine qO ?_ | (with_reducible intro z hz); (first | (replace hz := hz (by omega); subst hz) | subst hz)); (try (conv => whnf))))
   exact hfin _ (ILes.refl _)
 by_cases c2 : x.nth = y.nth
 rotate_left
 · rw [decide_eq_false (fun e => c2 (by rw [e]))]
   refine PC.of_va (T := tbq) eqsQ_ok tbq_ok rfl mixed Tryz.func14 rfl rfl (Nat.le_of_ble_eq_true rfl) ?_; intro Γ C WK LP fin h0 hW hC hB hR hLP hfin
   (try (conv => whnf)); (repeat ((first | refine qT ?_ | refine qF ?_ | refine qO ?_ | (with_reducible intro z hz); (first | (replace hz := hz (by omega); subst hz) | subst hz)); (try (conv => whnf))))
   exact hfin _ (ILes.refl _)
 by_cases c3 : x.lb = y.lb
 rotate_left
 · rw [decide_eq_false (fun e => c3 (by rw [e]))]
   refine PC.of_va (T := tbq) eqsQ_ok tbq_ok rfl mixed Tryz.func14 rfl rfl (Nat.le_of_ble_eq_true rfl) ?_; intro Γ C WK LP fin h0 hW hC hB hR hLP hfin
   (try (conv => whnf)); (repeat ((first | refine qT ?_ | refine qF ?_ | refine qO ?_ | (with_reducible intro z hz); (first | (replace hz := hz (by omega); subst hz) | subst hz)); (try (conv => whnf))))
   exact hfin _ (ILes.refl _)
 by_cases c4 : x.fr = y.fr
 rotate_left
 · rw [decide_eq_false (fun e => c4 (by rw [e]))]
   refine PC.of_va (T := tbq) eqsQ_ok tbq_ok rfl mixed Tryz.func14 rfl rfl (Nat.le_of_ble_eq_true rfl) ?_; intro Γ C WK LP fin h0 hW hC hB hR hLP hfin
   (try (conv => whnf)); (repeat ((first | refine qT ?_ | refine qF ?_ | refine qO ?_ | (with_reducible intro z hz); (first | (replace hz := hz (by omega); subst hz) | subst hz)); (try (conv => whnf))))
   exact hfin _ (ILes.refl _)
 by_cases c5 : x.sk = y.sk ∧ x.sd = y.sd ∧ x.se = y.se
 rotate_left
 · rw [decide_eq_false (fun e => c5 (by rw [e]; exact ⟨rfl, rfl, rfl⟩))]
   rw [decide_eq_false c5] at hst
   have hst := ne_true_of_eq_false hst
   refine PC.of_va (T := tbq) eqsQ_ok tbq_ok rfl mixed Tryz.func14 rfl rfl (Nat.le_of_ble_eq_true rfl) ?_; intro Γ C WK LP fin h0 hW hC hB hR hLP hfin
   (try (conv => whnf)); (repeat ((first | refine qT ?_ | refine qF ?_ | refine qO ?_ | (with_reducible intro z hz); (first | (replace hz := hz (by omega); subst hz) | subst hz)); (try (conv => whnf))))
   exact hfin _ (ILes.refl _)
 rw [decide_eq_true c5] at hst
 obtain ⟨d1, d2, d3⟩ := c5
 by_cases c6 : x.a = y.a
 rotate_left
 · rw [decide_eq_false (fun e => c6 (by rw [e]))]
   refine PC.of_va (T := tbq) eqsQ_ok tbq_ok rfl mixed Tryz.func14 rfl rfl (Nat.le_of_ble_eq_true rfl) ?_; intro Γ C WK LP fin h0 hW hC hB hR hLP hfin
   (try (conv => whnf)); (repeat ((first | refine qT ?_ | refine qF ?_ | refine qO ?_ | (with_reducible intro z hz); (first | (replace hz := hz (by omega); subst hz) | subst hz)); (try (conv => whnf))))
   exact hfin _ (ILes.refl _)
 by_cases c7 : x.i = y.i
 rotate_left
 · rw [decide_eq_false (fun e => c7 (by rw [e]))]
   refine PC.of_va (T := tbq) eqsQ_ok tbq_ok rfl mixed Tryz.func14 rfl rfl (Nat.le_of_ble_eq_true rfl) ?_; intro Γ C WK LP fin h0 hW hC hB hR hLP hfin
   (try (conv => whnf)); (repeat ((first | refine qT ?_ | refine qF ?_ | refine qO ?_ | (with_reducible intro z hz); (first | (replace hz := hz (by omega); subst hz) | subst hz)); (try (conv => whnf))))
   exact hfin _ (ILes.refl _)
 by_cases c8 : x.d = y.d
 rotate_left
 · rw [decide_eq_false (fun e => c8 (by rw [e]))]
   refine PC.of_va (T := tbq) eqsQ_ok tbq_ok rfl mixed Tryz.func14 rfl rfl (Nat.le_of_ble_eq_true rfl) ?_; intro Γ C WK LP fin h0 hW hC hB hR hLP hfin
   (try (conv => whnf)); (repeat ((first | refine qT ?_ | refine qF ?_ | refine qO ?_ | (with_reducible intro z hz); (first | (replace hz := hz (by omega); subst hz) | subst hz)); (try (conv => whnf))))
   exact hfin _ (ILes.refl _)
 by_cases c9 : x.ev = y.ev
 rotate_left
 · rw [decide_eq_false (fun e => c9 (by rw [e]))]
   refine PC.of_va (T := tbq) eqsQ_ok tbq_ok rfl mixed Tryz.func14 rfl rfl (Nat.le_of_ble_eq_true rfl) ?_; intro Γ C WK LP fin h0 hW hC hB hR hLP hfin
   (try (conv => whnf)); (repeat ((first | refine qT ?_ | refine qF ?_ | refine qO ?_ | (with_reducible intro z hz); (first | (replace hz := hz (by omega); subst hz) | subst hz)); (try (conv => whnf))))
   exact hfin _ (ILes.refl _)
 by_cases c10 : x.p = y.p
 rotate_left
 · rw [decide_eq_false (fun e => c10 (by rw [e]))]
   rw [decide_eq_false c10] at h1
   refine PC.of_va (T := tbq) eqsQ_ok tbq_ok rfl mixed Tryz.func14 rfl rfl (Nat.le_of_ble_eq_true rfl) ?_; intro Γ C WK LP fin h0 hW hC hB hR hLP hfin
   (try (conv => whnf)); (repeat ((first | refine qT ?_ | refine qF ?_ | refine qO ?_ | (with_reducible intro z hz); (first | (replace hz := hz (by omega); subst hz) | subst hz) | (refine CallV.mk _ (hC _ _ _ (PCw.of h1)) (fun js hjs => ?_); subst hjs)); (try (conv => whnf))))
   exact hfin _ (ILes.refl _)
 rw [decide_eq_true c10] at h1
 by_cases c11 : x.q = y.q
 rotate_left
 · rw [decide_eq_false (fun e => c11 (by rw [e]))]
   rw [decide_eq_false c11] at h2
   refine PC.of_va (T := tbq) eqsQ_ok tbq_ok rfl mixed Tryz.func14 rfl rfl (Nat.le_of_ble_eq_true rfl) ?_; intro Γ C WK LP fin h0 hW hC hB hR hLP hfin
   (try (conv => whnf)); (repeat ((first | refine qT ?_ | refine qF ?_ | refine qO ?_ | (with_reducible intro z hz); (first | (replace hz := hz (by omega); subst hz) | subst hz) | (refine CallV.mk _ (hC _ _ _ (PCw.of h1)) (fun js hjs => ?_); subst hjs) | (refine CallV.mk _ (hC _ _ _ (PCw.of h2)) (fun js hjs => ?_); subst hjs)); (try (conv => whnf))))
   exact hfin _ (ILes.refl _)
 rw [decide_eq_true c11] at h2
 by_cases c12 : x.old = y.old
 rotate_left
 · rw [decide_eq_false (fun e => c12 (by rw [e]))]
   rw [decide_eq_false c12] at h6
   refine PC.of_va (T := tbq) eqsQ_ok tbq_ok rfl mixed Tryz.func14 rfl rfl (Nat.le_of_ble_eq_true rfl) ?_; intro Γ C WK LP fin h0 hW hC hB hR hLP hfin
   (try (conv => whnf)); (repeat ((first | refine qT ?_ | refine qF ?_ | refine qO ?_ | (with_reducible intro z hz); (first | (replace hz := hz (by omega); subst hz) | subst hz) | (refine CallV.mk _ (hC _ _ _ (PCw.of h1)) (fun js hjs => ?_); subst hjs) | (refine CallV.mk _ (hC _ _ _ (PCw.of h2)) (fun js hjs => ?_); subst hjs) | (refine CallV.mk _ (hC _ _ _ (PCw.of h6)) (fun js hjs => ?_); subst hjs)); (try (conv => whnf))))
   exact hfin _ (ILes.refl _)
 rw [decide_eq_true c12] at h6
 by_cases c13 : x.new = y.new
 rotate_left
 · rw [decide_eq_false (fun e => c13 (by rw [e]))]
   rw [decide_eq_false c13] at h7
   refine PC.of_va (T := tbq) eqsQ_ok tbq_ok rfl mixed Tryz.func14 rfl rfl (Nat.le_of_ble_eq_true rfl) ?_; intro Γ C WK LP fin h0 hW hC hB hR hLP hfin
   (try (conv => whnf)); (repeat ((first | refine qT ?_ | refine qF ?_ | refine qO ?_ | (with_reducible intro z hz); (first | (replace hz := hz (by omega); subst hz) | subst hz) | (refine CallV.mk _ (hC _ _ _ (PCw.of h1)) (fun js hjs => ?_); subst hjs) | (refine CallV.mk _ (hC _ _ _ (PCw.of h2)) (fun js hjs => ?_); subst hjs) | (refine CallV.mk _ (hC _ _ _ (PCw.of h6)) (fun js hjs => ?_); subst hjs) | (refine CallV.mk _ (hC _ _ _ (PCw.of h7)) (fun js hjs => ?_); subst hjs)); (try (conv => whnf))))
   exact hfin _ (ILes.refl _)
 rw [decide_eq_true c13] at h7
 by_cases c14 : x.unit = y.unit
 rotate_left
 · rw [decide_eq_false (fun e => c14 (by rw [e]))]
   rw [decide_eq_false c14] at h5
   refine PC.of_va (T := tbq) eqsQ_ok tbq_ok rfl mixed Tryz.func14 rfl rfl (Nat.le_of_ble_eq_true rfl) ?_; intro Γ C WK LP fin h0 hW hC hB hR hLP hfin
   (try (conv => whnf)); (repeat ((first | refine qT ?_ | refine qF ?_ | refine qO ?_ | (with_reducible intro z hz); (first | (replace hz := hz (by omega); subst hz) | subst hz) | (refine CallV.mk _ (hC _ _ _ (PCw.of h1)) (fun js hjs => ?_); subst hjs) | (refine CallV.mk _ (hC _ _ _ (PCw.of h2)) (fun js hjs => ?_); subst hjs) | (refine CallV.mk _ (hC _ _ _ (PCw.of h6)) (fun js hjs => ?_); subst hjs) | (refine CallV.mk _ (hC _ _ _ (PCw.of h7)) (fun js hjs => ?_); subst hjs) | (refine CallV.mk _ (hC _ _ _ (PCw.of h5)) (fun js hjs => ?_); subst hjs)); (try (conv => whnf))))
   exact hfin _ (ILes.refl _)
 rw [decide_eq_true c14] at h5
 by_cases c15 : x.bys.length = y.bys.length
 rotate_left
 · rw [decide_eq_false (fun e => c15 (by rw [e]))]
   refine PC.of_va (T := tbq) eqsQ_ok tbq_ok rfl mixed Tryz.func14 rfl rfl (Nat.le_of_ble_eq_true rfl) ?_; intro Γ C WK LP fin h0 hW hC hB hR hLP hfin
   (try (conv => whnf)); (repeat ((first | refine qT ?_ | refine qF ?_ | refine qO ?_ | (with_reducible intro z hz); (first | (replace hz := hz (by omega); subst hz) | subst hz) | (refine CallV.mk _ (hC _ _ _ (PCw.of h1)) (fun js hjs => ?_); subst hjs) | (refine CallV.mk _ (hC _ _ _ (PCw.of h2)) (fun js hjs => ?_); subst hjs) | (refine CallV.mk _ (hC _ _ _ (PCw.of h6)) (fun js hjs => ?_); subst hjs) | (refine CallV.mk _ (hC _ _ _ (PCw.of h7)) (fun js hjs => ?_); subst hjs) | (refine CallV.mk _ (hC _ _ _ (PCw.of h5)) (fun js hjs => ?_); subst hjs)); (try (conv => whnf))))
   exact hfin _ (ILes.refl _)
 refine PC.of_va (T := tbq) eqsQ_ok tbq_ok rfl mixed Tryz.func14 rfl rfl (Nat.le_of_ble_eq_true rfl) ?_; intro Γ C WK LP fin h0 hW hC hB hR hLP hfin
 (try (conv => whnf)); (repeat ((first | refine qT ?_ | refine qF ?_ | refine qO ?_ | (with_reducible intro z hz); (first | (replace hz := hz (by omega); subst hz) | subst hz) | (refine CallV.mk _ (hC _ _ _ (PCw.of h1)) (fun js hjs => ?_); subst hjs) | (refine CallV.mk _ (hC _ _ _ (PCw.of h2)) (fun js hjs => ?_); subst hjs) | (refine CallV.mk _ (hC _ _ _ (PCw.of h6)) (fun js hjs => ?_); subst hjs) | (refine CallV.mk _ (hC _ _ _ (PCw.of h7)) (fun js hjs => ?_); subst hjs) | (refine CallV.mk _ (hC _ _ _ (PCw.of h5)) (fun js hjs => ?_); subst hjs)); (try (conv => whnf))))
 refine hLP _ _ _ Nat (fun k => ⟨[(2, .ptr 0 1 0), (3, .ptr 1 1 0), (5, .imm (.int .i64 (k : Nat)))], [.box 1 [.imm (.int .i64 x.kind), .imm (.sl 2 (x.p.map spv)), .imm (.sl 2 (x.q.map spv)), .imm (.int .i64 x.z), .imm (.int .i64 x.nth), .imm (.int .i64 x.unit.id.x), .imm (.int .i64 x.unit.id.y), .imm (.int .i64 x.unit.id.z), .imm (.int .i64 x.unit.kind), .imm (.str x.unit.label), .imm (.sl 4 (x.unit.head.map wdv)), .imm (.sl 4 (x.unit.words.map wdv)), .imm (.sl 8 (x.unit.kids.map uv)), .imm (.sl 1 (x.old.map IV.str)), .imm (.sl 1 (x.new.map IV.str)), .imm (.str x.lb), .imm (.str x.fr), .imm (.int .i64 x.sk), .imm (.int .i64 x.sd), .imm (.str x.se), .imm (.int .i64 x.a), .imm (.int .i64 x.i), .imm (.int .i64 x.d), .imm (.str x.ev), .imm (.sl 25 (x.bys.map itv))], .box 1 [.imm (.int .i64 y.kind), .imm (.sl 2 (y.p.map spv)), .imm (.sl 2 (y.q.map spv)), .imm (.int .i64 y.z), .imm (.int .i64 y.nth), .imm (.int .i64 y.unit.id.x), .imm (.int .i64 y.unit.id.y), .imm (.int .i64 y.unit.id.z), .imm (.int .i64 y.unit.kind), .imm (.str y.unit.label), .imm (.sl 4 (y.unit.head.map wdv)), .imm (.sl 4 (y.unit.words.map wdv)), .imm (.sl 8 (y.unit.kids.map uv)), .imm (.sl 1 (y.old.map IV.str)), .imm (.sl 1 (y.new.map IV.str)), .imm (.str y.lb), .imm (.str y.fr), .imm (.int .i64 y.sk), .imm (.int .i64 y.sd), .imm (.str y.se), .imm (.int .i64 y.a), .imm (.int .i64 y.i), .imm (.int .i64 y.d), .imm (.str y.ev), .imm (.sl 25 (y.bys.map itv))]]⟩) (fun k => k ≤ x.bys.length ∧ x.bys.take k = y.bys.take k) (fun k => x.bys.length - k) 0 ⟨Nat.zero_le _, by simp⟩ (qSL 2 rfl rfl) ?_
 rintro k ⟨hkk, he⟩
 have hho := Nat.lt_or_ge k x.bys.length
 cases hho with
 | inl hlt =>
   obtain ⟨u, hu⟩ : ∃ u, x.bys[k]? = some u := ⟨x.bys[k], List.getElem?_eq_getElem hlt⟩
   obtain ⟨v, hv⟩ : ∃ v, y.bys[k]? = some v := ⟨y.bys[k], List.getElem?_eq_getElem (by omega)⟩
   have hS := ih u (List.mem_of_getElem? hu) v (hy0.by v (List.mem_of_getElem? hv))
   rw [itv_eq u, itv_eq v] at hS
   by_cases huv : u = v
   · rw [decide_eq_true huv] at hS
     (try (conv => whnf)); (repeat ((first | refine qT ?_ | refine qF ?_ | refine qO ?_ | (with_reducible intro z hz); (first | (replace hz := hz (by omega); subst hz) | subst hz)); (try (conv => whnf))))
     refine Idx.mk k (itv u) _ rfl (by simp [hu]) (by rw [itv_eq u]) ?_
     (try (conv => whnf)); (repeat ((first | refine qT ?_ | refine qF ?_ | refine qO ?_ | (with_reducible intro z hz); (first | (replace hz := hz (by omega); subst hz) | subst hz)); (try (conv => whnf))))
     refine Idx.mk k (itv v) _ rfl (by simp [hv]) (by rw [itv_eq v]) ?_
     (try (conv => whnf)); (repeat ((first | refine qT ?_ | refine qF ?_ | refine qO ?_ | (with_reducible intro z hz); (first | (replace hz := hz (by omega); subst hz) | subst hz) | (refine CallV.mk _ (hC _ _ _ (PCw.of hS)) (fun js hjs => ?_); subst hjs)); (try (conv => whnf))))
     exact ⟨k + 1, ⟨by omega, by rw [take_at hu, take_at hv, he, huv]⟩, by dsimp only; omega, (qSL 2 rfl rfl)⟩
   · rw [decide_eq_false huv] at hS
     rw [decide_eq_false (fun e => take_ne hu hv huv (by rw [e]))] at hfin
     (try (conv => whnf)); (repeat ((first | refine qT ?_ | refine qF ?_ | refine qO ?_ | (with_reducible intro z hz); (first | (replace hz := hz (by omega); subst hz) | subst hz)); (try (conv => whnf))))
     refine Idx.mk k (itv u) _ rfl (by simp [hu]) (by rw [itv_eq u]) ?_
     (try (conv => whnf)); (repeat ((first | refine qT ?_ | refine qF ?_ | refine qO ?_ | (with_reducible intro z hz); (first | (replace hz := hz (by omega); subst hz) | subst hz)); (try (conv => whnf))))
     refine Idx.mk k (itv v) _ rfl (by simp [hv]) (by rw [itv_eq v]) ?_
     (try (conv => whnf)); (repeat ((first | refine qT ?_ | refine qF ?_ | refine qO ?_ | (with_reducible intro z hz); (first | (replace hz := hz (by omega); subst hz) | subst hz) | (refine CallV.mk _ (hC _ _ _ (PCw.of hS)) (fun js hjs => ?_); subst hjs)); (try (conv => whnf))))
     exact hfin _ (ILes.refl _)
 | inr hge =>
   obtain rfl : k = x.bys.length := by omega
   rw [List.take_length, c15, List.take_length] at he
   rw [decide_eq_true (It.ext' c0 c10 c11 c1 c2 c14 c12 c13 c3 c4 d1 d2 d3 c6 c7 c8 c9 he)] at hfin
   (try (conv => whnf)); (repeat ((first | refine qT ?_ | refine qF ?_ | refine qO ?_ | (with_reducible intro z hz); (first | (replace hz := hz (by omega); subst hz) | subst hz)); (try (conv => whnf))))
   exact hfin _ (ILes.refl _)
theorem Ei.ext' {a b : Ei} (h1 : a.act = b.act) (h2 : a.item = b.item) (h3 : a.day = b.day) (h4 : a.it = b.it) : a = b := by
 cases a; cases b
 simp only at h1 h2 h3 h4
 subst h1 h2 h3 h4
 rfl
end Go.Proofs.YtglkpmhamekpmaaGreat.Po
