/-
  isWithin, Destination.
-/
import Derived.Test.YtiohjjgncbhimaaDoorWKn
namespace Go.Proofs.YtiohjjgncbhimaaDoor.Pk
open Go Go.Pv Go.RowKit Go.Proofs.YtiohjjgncbhimaaDoor.Pu Go.Proofs.YtiohjjgncbhimaaDoor.Pa Go.Proofs.YtiohjjgncbhimaaDoor.Pb
set_option linter.unusedSimpArgs false
open Lab Lcs Go.Proofs.YtiohjjgncbhimaaDoor
set_option maxRecDepth 10000
set_option maxHeartbeats 32000000
theorem within_pc (u : Ut) (x id : Trip) (hc : u.count ≤ 10000) : PC Tryd.prog envU 46 [uv u, idv x, idv id] [.bool (withinB u x id)] := by
 have hA := anc_pc x u (by omega)
 have hl : (ancL x u).length ≤ 100000000 := by
   unfold ancL
   have := Pu.lin_len x u
   simp only [List.length_map, List.length_drop]
   omega
 have hC2 := contains_pc id (ancL x u) hl
 have hue := uv_eq u
 unfold withinB
 generalize ancL x u = l at hA hC2 ⊢
 by_cases h : x = id
 · have hi := id_eq h
   rw [decide_eq_true h, Bool.true_or]
   rw [hue] at hA ⊢
   unfold idv idl at *
   refine PC.of_va (T := tb0) eqs2_ok tb_ok rfl mixed Tryd.func46 rfl rfl (Nat.le_of_ble_eq_true rfl) ?_; intro Γ C WK LP fin h0 hW hC hB hR hLP hfin
   (try (conv => whnf)); (repeat ((first | refine qT ?_ | refine qF ?_ | refine qO ?_ | (with_reducible intro z hz); (first | (replace hz := hz (by omega); subst hz) | subst hz)); (try (conv => whnf))))
   exact hfin _ (ILes.refl _)
 · have hi := id_ne h
   rw [decide_eq_false h, Bool.false_or]
   generalize decide (id ∈ l) = b at hC2 ⊢
   rw [hue] at hA ⊢
   unfold idv idl at *
   refine PC.of_va (T := tb0) eqs2_ok tb_ok rfl mixed Tryd.func46 rfl rfl (Nat.le_of_ble_eq_true rfl) ?_; intro Γ C WK LP fin h0 hW hC hB hR hLP hfin
   (try (conv => whnf)); (repeat ((first | refine qT ?_ | refine qF ?_ | refine qO ?_ | (with_reducible intro z hz); (first | (replace hz := hz (by omega); subst hz) | subst hz) | (refine CallV.mk _ (hC _ _ _ (PCw.of hA)) (fun js hjs => ?_); subst hjs) | (refine CallV.mk _ (hC _ _ _ (PCw.of hC2)) (fun js hjs => ?_); subst hjs)); (try (conv => whnf))))
   exact hfin _ (ILes.refl _)
theorem move0_pc (u : Ut) (x : It) (hz : x.z = 0) (hc : u.count ≤ 10000) (hs : small u) (hp : ∀ s ∈ x.p, shortS s) (hq : ∀ s ∈ x.q, shortS s) : PC Tryd.prog envU 29 [uv u, itv x] (out3 (moveA u x)) := by
 have hPl := placer0_pcb u
 have hFi := find21_pc u x hc hp
 have hIn := ins_pc u x.q 0 hc hs hq
 have hnb := ins_bound u x.q 0
 unfold moveA
 rw [hz, if_pos (by decide)]
 have hue := uv_eq u
 have hxe := itv_eq x
 rw [hz] at hxe
 generalize oneA u x.p = o at hFi ⊢
 obtain ⟨t, e⟩ := o
 generalize insA u x.q 0 = q at hIn hnb ⊢
 obtain ⟨a, n, f⟩ := q
 have hWi := within_pc u a t hc
 have hPa := parent_pc t u (by omega)
 have hpb := par_bound (t := t) (u := u)
 dsimp only at hFi hIn hnb ⊢
 generalize withinB u a t = b at hWi ⊢
 generalize parV t u = r at hPa hpb ⊢
 obtain ⟨r1, r2, r3⟩ := r
 dsimp only at hPa hpb ⊢
 unfold out3 at hIn ⊢
 dsimp only at hIn
 rw [hxe] at hFi ⊢
 rw [hue] at hPl hFi hIn hWi hPa ⊢
 by_cases h0 : e = 0
 case neg =>
   rw [if_neg h0]
   unfold idv idl at *
   refine PC.of_va (T := tb0) eqs2_ok tb_ok rfl mixed Tryd.func29 rfl rfl (Nat.le_of_ble_eq_true rfl) ?_; intro Γ C WK LP fin h0 hW hC hB hR hLP hfin
   (try (conv => whnf)); (repeat ((first | refine qT ?_ | refine qF ?_ | refine qO ?_ | (with_reducible intro z hz); (first | (replace hz := hz (by omega); subst hz) | subst hz)); (try (conv => whnf))))
   refine CallB.mk ([.imm (.fn 40)]) ([.box 2 [.imm (.int .i64 u.id.x), .imm (.int .i64 u.id.y), .imm (.int .i64 u.id.z), .imm (.int .i64 u.kind), .imm (.str u.label), .imm (.sl 4 (u.head.map wdv)), .imm (.sl 4 (u.words.map wdv)), .imm (.sl 8 (u.kids.map uv))]]) (hB _ _ _ _ _ (hPl)) ?_
   (try (conv => whnf)); (repeat ((first | refine qT ?_ | refine qF ?_ | refine qO ?_ | (with_reducible intro z hz); (first | (replace hz := hz (by omega); subst hz) | subst hz) | (refine CallV.mk _ (hC _ _ _ (PCw.of hFi)) (fun js hjs => ?_); subst hjs)); (try (conv => whnf))))
   exact hfin _ (ILes.refl _)
 rw [if_pos h0]
 by_cases h1 : f = 0
 case neg =>
   rw [if_neg h1]
   unfold idv idl at *
   refine PC.of_va (T := tb0) eqs2_ok tb_ok rfl mixed Tryd.func29 rfl rfl (Nat.le_of_ble_eq_true rfl) ?_; intro Γ C WK LP fin h0 hW hC hB hR hLP hfin
   (try (conv => whnf)); (repeat ((first | refine qT ?_ | refine qF ?_ | refine qO ?_ | (with_reducible intro z hz); (first | (replace hz := hz (by omega); subst hz) | subst hz)); (try (conv => whnf))))
   refine CallB.mk ([.imm (.fn 40)]) ([.box 2 [.imm (.int .i64 u.id.x), .imm (.int .i64 u.id.y), .imm (.int .i64 u.id.z), .imm (.int .i64 u.kind), .imm (.str u.label), .imm (.sl 4 (u.head.map wdv)), .imm (.sl 4 (u.words.map wdv)), .imm (.sl 8 (u.kids.map uv))]]) (hB _ _ _ _ _ (hPl)) ?_
   (try (conv => whnf)); (repeat ((first | refine qT ?_ | refine qF ?_ | refine qO ?_ | (with_reducible intro z hz); (first | (replace hz := hz (by omega); subst hz) | subst hz) | (refine CallV.mk _ (hC _ _ _ (PCw.of hFi)) (fun js hjs => ?_); subst hjs) | (refine CallV.mk _ (hC _ _ _ (PCw.of hIn)) (fun js hjs => ?_); subst hjs)); (try (conv => whnf))))
   exact hfin _ (ILes.refl _)
 rw [if_pos h1]
 cases b
 case true =>
   rw [if_pos rfl]
   unfold idv idl at *
   refine PC.of_va (T := tb0) eqs2_ok tb_ok rfl mixed Tryd.func29 rfl rfl (Nat.le_of_ble_eq_true rfl) ?_; intro Γ C WK LP fin h0 hW hC hB hR hLP hfin
   (try (conv => whnf)); (repeat ((first | refine qT ?_ | refine qF ?_ | refine qO ?_ | (with_reducible intro z hz); (first | (replace hz := hz (by omega); subst hz) | subst hz)); (try (conv => whnf))))
   refine CallB.mk ([.imm (.fn 40)]) ([.box 2 [.imm (.int .i64 u.id.x), .imm (.int .i64 u.id.y), .imm (.int .i64 u.id.z), .imm (.int .i64 u.kind), .imm (.str u.label), .imm (.sl 4 (u.head.map wdv)), .imm (.sl 4 (u.words.map wdv)), .imm (.sl 8 (u.kids.map uv))]]) (hB _ _ _ _ _ (hPl)) ?_
   (try (conv => whnf)); (repeat ((first | refine qT ?_ | refine qF ?_ | refine qO ?_ | (with_reducible intro z hz); (first | (replace hz := hz (by omega); subst hz) | subst hz) | (refine CallV.mk _ (hC _ _ _ (PCw.of hFi)) (fun js hjs => ?_); subst hjs) | (refine CallV.mk _ (hC _ _ _ (PCw.of hIn)) (fun js hjs => ?_); subst hjs) | (refine CallV.mk _ (hC _ _ _ (PCw.of hWi)) (fun js hjs => ?_); subst hjs)); (try (conv => whnf))))
   exact hfin _ (ILes.refl _)
 rw [if_neg (by decide)]
 by_cases h2 : r1 = a
 · have hi := id_eq h2
   by_cases h3 : r2 < n
   · rw [if_pos ⟨h2, h3⟩]
     unfold idv idl at *
     refine PC.of_va (T := tb0) eqs2_ok tb_ok rfl mixed Tryd.func29 rfl rfl (Nat.le_of_ble_eq_true rfl) ?_; intro Γ C WK LP fin h0 hW hC hB hR hLP hfin
     (try (conv => whnf)); (repeat ((first | refine qT ?_ | refine qF ?_ | refine qO ?_ | (with_reducible intro z hz); (first | (replace hz := hz (by omega); subst hz) | subst hz)); (try (conv => whnf))))
     refine CallB.mk ([.imm (.fn 40)]) ([.box 2 [.imm (.int .i64 u.id.x), .imm (.int .i64 u.id.y), .imm (.int .i64 u.id.z), .imm (.int .i64 u.kind), .imm (.str u.label), .imm (.sl 4 (u.head.map wdv)), .imm (.sl 4 (u.words.map wdv)), .imm (.sl 8 (u.kids.map uv))]]) (hB _ _ _ _ _ (hPl)) ?_
     (try (conv => whnf)); (repeat ((first | refine qT ?_ | refine qF ?_ | refine qO ?_ | (with_reducible intro z hz); (first | (replace hz := hz (by omega); subst hz) | subst hz) | (refine CallV.mk _ (hC _ _ _ (PCw.of hFi)) (fun js hjs => ?_); subst hjs) | (refine CallV.mk _ (hC _ _ _ (PCw.of hIn)) (fun js hjs => ?_); subst hjs) | (refine CallV.mk _ (hC _ _ _ (PCw.of hWi)) (fun js hjs => ?_); subst hjs) | (refine CallV.mk _ (hC _ _ _ (PCw.of hPa)) (fun js hjs => ?_); subst hjs)); (try (conv => whnf))))
     exact hfin _ (ILes.refl _)
   · rw [if_neg (fun h => h3 h.2)]
     unfold idv idl at *
     refine PC.of_va (T := tb0) eqs2_ok tb_ok rfl mixed Tryd.func29 rfl rfl (Nat.le_of_ble_eq_true rfl) ?_; intro Γ C WK LP fin h0 hW hC hB hR hLP hfin
     (try (conv => whnf)); (repeat ((first | refine qT ?_ | refine qF ?_ | refine qO ?_ | (with_reducible intro z hz); (first | (replace hz := hz (by omega); subst hz) | subst hz)); (try (conv => whnf))))
     refine CallB.mk ([.imm (.fn 40)]) ([.box 2 [.imm (.int .i64 u.id.x), .imm (.int .i64 u.id.y), .imm (.int .i64 u.id.z), .imm (.int .i64 u.kind), .imm (.str u.label), .imm (.sl 4 (u.head.map wdv)), .imm (.sl 4 (u.words.map wdv)), .imm (.sl 8 (u.kids.map uv))]]) (hB _ _ _ _ _ (hPl)) ?_
     (try (conv => whnf)); (repeat ((first | refine qT ?_ | refine qF ?_ | refine qO ?_ | (with_reducible intro z hz); (first | (replace hz := hz (by omega); subst hz) | subst hz) | (refine CallV.mk _ (hC _ _ _ (PCw.of hFi)) (fun js hjs => ?_); subst hjs) | (refine CallV.mk _ (hC _ _ _ (PCw.of hIn)) (fun js hjs => ?_); subst hjs) | (refine CallV.mk _ (hC _ _ _ (PCw.of hWi)) (fun js hjs => ?_); subst hjs) | (refine CallV.mk _ (hC _ _ _ (PCw.of hPa)) (fun js hjs => ?_); subst hjs)); (try (conv => whnf))))
     exact hfin _ (ILes.refl _)
 · have hi := id_ne h2
   rw [if_neg (fun h => h2 h.1)]
   unfold idv idl at *
   refine PC.of_va (T := tb0) eqs2_ok tb_ok rfl mixed Tryd.func29 rfl rfl (Nat.le_of_ble_eq_true rfl) ?_; intro Γ C WK LP fin h0 hW hC hB hR hLP hfin
   (try (conv => whnf)); (repeat ((first | refine qT ?_ | refine qF ?_ | refine qO ?_ | (with_reducible intro z hz); (first | (replace hz := hz (by omega); subst hz) | subst hz)); (try (conv => whnf))))
   refine CallB.mk ([.imm (.fn 40)]) ([.box 2 [.imm (.int .i64 u.id.x), .imm (.int .i64 u.id.y), .imm (.int .i64 u.id.z), .imm (.int .i64 u.kind), .imm (.str u.label), .imm (.sl 4 (u.head.map wdv)), .imm (.sl 4 (u.words.map wdv)), .imm (.sl 8 (u.kids.map uv))]]) (hB _ _ _ _ _ (hPl)) ?_
   (try (conv => whnf)); (repeat ((first | refine qT ?_ | refine qF ?_ | refine qO ?_ | (with_reducible intro z hz); (first | (replace hz := hz (by omega); subst hz) | subst hz) | (refine CallV.mk _ (hC _ _ _ (PCw.of hFi)) (fun js hjs => ?_); subst hjs) | (refine CallV.mk _ (hC _ _ _ (PCw.of hIn)) (fun js hjs => ?_); subst hjs) | (refine CallV.mk _ (hC _ _ _ (PCw.of hWi)) (fun js hjs => ?_); subst hjs) | (refine CallV.mk _ (hC _ _ _ (PCw.of hPa)) (fun js hjs => ?_); subst hjs)); (try (conv => whnf))))
   exact hfin _ (ILes.refl _)
theorem move1_pc (u : Ut) (x : It) (hz : x.z = 1) (hc : u.count ≤ 10000) (hs : small u) (hp : ∀ s ∈ x.p, shortS s) (hq : ∀ s ∈ x.q, shortS s) : PC Tryd.prog envU 29 [uv u, itv x] (out3 (moveA u x)) := by
 have hPl := placer1_pcb u
 have hFi := find21_pc u x hc hp
 have hIn := ins_pc u x.q 1 hc hs hq
 have hnb := ins_bound u x.q 1
 unfold moveA
 rw [hz, if_pos (by decide)]
 have hue := uv_eq u
 have hxe := itv_eq x
 rw [hz] at hxe
 generalize oneA u x.p = o at hFi ⊢
 obtain ⟨t, e⟩ := o
 generalize insA u x.q 1 = q at hIn hnb ⊢
 obtain ⟨a, n, f⟩ := q
 have hWi := within_pc u a t hc
 have hPa := parent_pc t u (by omega)
 have hpb := par_bound (t := t) (u := u)
 dsimp only at hFi hIn hnb ⊢
 generalize withinB u a t = b at hWi ⊢
 generalize parV t u = r at hPa hpb ⊢
 obtain ⟨r1, r2, r3⟩ := r
 dsimp only at hPa hpb ⊢
 unfold out3 at hIn ⊢
 dsimp only at hIn
 rw [hxe] at hFi ⊢
 rw [hue] at hPl hFi hIn hWi hPa ⊢
 by_cases h0 : e = 0
 case neg =>
   rw [if_neg h0]
   unfold idv idl at *
   refine PC.of_va (T := tb0) eqs2_ok tb_ok rfl mixed Tryd.func29 rfl rfl (Nat.le_of_ble_eq_true rfl) ?_; intro Γ C WK LP fin h0 hW hC hB hR hLP hfin
   (try (conv => whnf)); (repeat ((first | refine qT ?_ | refine qF ?_ | refine qO ?_ | (with_reducible intro z hz); (first | (replace hz := hz (by omega); subst hz) | subst hz)); (try (conv => whnf))))
   refine CallB.mk ([.clo 41 [.ptr 0 2 0]]) ([.box 2 [.imm (.int .i64 u.id.x), .imm (.int .i64 u.id.y), .imm (.int .i64 u.id.z), .imm (.int .i64 u.kind), .imm (.str u.label), .imm (.sl 4 (u.head.map wdv)), .imm (.sl 4 (u.words.map wdv)), .imm (.sl 8 (u.kids.map uv))]]) (hB _ _ _ _ _ (hPl)) ?_
   (try (conv => whnf)); (repeat ((first | refine qT ?_ | refine qF ?_ | refine qO ?_ | (with_reducible intro z hz); (first | (replace hz := hz (by omega); subst hz) | subst hz) | (refine CallV.mk _ (hC _ _ _ (PCw.of hFi)) (fun js hjs => ?_); subst hjs)); (try (conv => whnf))))
   exact hfin _ (ILes.refl _)
 rw [if_pos h0]
 by_cases h1 : f = 0
 case neg =>
   rw [if_neg h1]
   unfold idv idl at *
   refine PC.of_va (T := tb0) eqs2_ok tb_ok rfl mixed Tryd.func29 rfl rfl (Nat.le_of_ble_eq_true rfl) ?_; intro Γ C WK LP fin h0 hW hC hB hR hLP hfin
   (try (conv => whnf)); (repeat ((first | refine qT ?_ | refine qF ?_ | refine qO ?_ | (with_reducible intro z hz); (first | (replace hz := hz (by omega); subst hz) | subst hz)); (try (conv => whnf))))
   refine CallB.mk ([.clo 41 [.ptr 0 2 0]]) ([.box 2 [.imm (.int .i64 u.id.x), .imm (.int .i64 u.id.y), .imm (.int .i64 u.id.z), .imm (.int .i64 u.kind), .imm (.str u.label), .imm (.sl 4 (u.head.map wdv)), .imm (.sl 4 (u.words.map wdv)), .imm (.sl 8 (u.kids.map uv))]]) (hB _ _ _ _ _ (hPl)) ?_
   (try (conv => whnf)); (repeat ((first | refine qT ?_ | refine qF ?_ | refine qO ?_ | (with_reducible intro z hz); (first | (replace hz := hz (by omega); subst hz) | subst hz) | (refine CallV.mk _ (hC _ _ _ (PCw.of hFi)) (fun js hjs => ?_); subst hjs) | (refine CallV.mk _ (hC _ _ _ (PCw.of hIn)) (fun js hjs => ?_); subst hjs)); (try (conv => whnf))))
   exact hfin _ (ILes.refl _)
 rw [if_pos h1]
 cases b
 case true =>
   rw [if_pos rfl]
   unfold idv idl at *
   refine PC.of_va (T := tb0) eqs2_ok tb_ok rfl mixed Tryd.func29 rfl rfl (Nat.le_of_ble_eq_true rfl) ?_; intro Γ C WK LP fin h0 hW hC hB hR hLP hfin
   (try (conv => whnf)); (repeat ((first | refine qT ?_ | refine qF ?_ | refine qO ?_ | (with_reducible intro z hz); (first | (replace hz := hz (by omega); subst hz) | subst hz)); (try (conv => whnf))))
   refine CallB.mk ([.clo 41 [.ptr 0 2 0]]) ([.box 2 [.imm (.int .i64 u.id.x), .imm (.int .i64 u.id.y), .imm (.int .i64 u.id.z), .imm (.int .i64 u.kind), .imm (.str u.label), .imm (.sl 4 (u.head.map wdv)), .imm (.sl 4 (u.words.map wdv)), .imm (.sl 8 (u.kids.map uv))]]) (hB _ _ _ _ _ (hPl)) ?_
   (try (conv => whnf)); (repeat ((first | refine qT ?_ | refine qF ?_ | refine qO ?_ | (with_reducible intro z hz); (first | (replace hz := hz (by omega); subst hz) | subst hz) | (refine CallV.mk _ (hC _ _ _ (PCw.of hFi)) (fun js hjs => ?_); subst hjs) | (refine CallV.mk _ (hC _ _ _ (PCw.of hIn)) (fun js hjs => ?_); subst hjs) | (refine CallV.mk _ (hC _ _ _ (PCw.of hWi)) (fun js hjs => ?_); subst hjs)); (try (conv => whnf))))
   exact hfin _ (ILes.refl _)
 rw [if_neg (by decide)]
 by_cases h2 : r1 = a
 · have hi := id_eq h2
   by_cases h3 : r2 < n
   · rw [if_pos ⟨h2, h3⟩]
     unfold idv idl at *
     refine PC.of_va (T := tb0) eqs2_ok tb_ok rfl mixed Tryd.func29 rfl rfl (Nat.le_of_ble_eq_true rfl) ?_; intro Γ C WK LP fin h0 hW hC hB hR hLP hfin
     (try (conv => whnf)); (repeat ((first | refine qT ?_ | refine qF ?_ | refine qO ?_ | (with_reducible intro z hz); (first | (replace hz := hz (by omega); subst hz) | subst hz)); (try (conv => whnf))))
     refine CallB.mk ([.clo 41 [.ptr 0 2 0]]) ([.box 2 [.imm (.int .i64 u.id.x), .imm (.int .i64 u.id.y), .imm (.int .i64 u.id.z), .imm (.int .i64 u.kind), .imm (.str u.label), .imm (.sl 4 (u.head.map wdv)), .imm (.sl 4 (u.words.map wdv)), .imm (.sl 8 (u.kids.map uv))]]) (hB _ _ _ _ _ (hPl)) ?_
     (try (conv => whnf)); (repeat ((first | refine qT ?_ | refine qF ?_ | refine qO ?_ | (with_reducible intro z hz); (first | (replace hz := hz (by omega); subst hz) | subst hz) | (refine CallV.mk _ (hC _ _ _ (PCw.of hFi)) (fun js hjs => ?_); subst hjs) | (refine CallV.mk _ (hC _ _ _ (PCw.of hIn)) (fun js hjs => ?_); subst hjs) | (refine CallV.mk _ (hC _ _ _ (PCw.of hWi)) (fun js hjs => ?_); subst hjs) | (refine CallV.mk _ (hC _ _ _ (PCw.of hPa)) (fun js hjs => ?_); subst hjs)); (try (conv => whnf))))
     exact hfin _ (ILes.refl _)
   · rw [if_neg (fun h => h3 h.2)]
     unfold idv idl at *
     refine PC.of_va (T := tb0) eqs2_ok tb_ok rfl mixed Tryd.func29 rfl rfl (Nat.le_of_ble_eq_true rfl) ?_; intro Γ C WK LP fin h0 hW hC hB hR hLP hfin
     (try (conv => whnf)); (repeat ((first | refine qT ?_ | refine qF ?_ | refine qO ?_ | (with_reducible intro z hz); (first | (replace hz := hz (by omega); subst hz) | subst hz)); (try (conv => whnf))))
     refine CallB.mk ([.clo 41 [.ptr 0 2 0]]) ([.box 2 [.imm (.int .i64 u.id.x), .imm (.int .i64 u.id.y), .imm (.int .i64 u.id.z), .imm (.int .i64 u.kind), .imm (.str u.label), .imm (.sl 4 (u.head.map wdv)), .imm (.sl 4 (u.words.map wdv)), .imm (.sl 8 (u.kids.map uv))]]) (hB _ _ _ _ _ (hPl)) ?_
     (try (conv => whnf)); (repeat ((first | refine qT ?_ | refine qF ?_ | refine qO ?_ | (with_reducible intro z hz); (first | (replace hz := hz (by omega); subst hz) | subst hz) | (refine CallV.mk _ (hC _ _ _ (PCw.of hFi)) (fun js hjs => ?_); subst hjs) | (refine CallV.mk _ (hC _ _ _ (PCw.of hIn)) (fun js hjs => ?_); subst hjs) | (refine CallV.mk _ (hC _ _ _ (PCw.of hWi)) (fun js hjs => ?_); subst hjs) | (refine CallV.mk _ (hC _ _ _ (PCw.of hPa)) (fun js hjs => ?_); subst hjs)); (try (conv => whnf))))
     exact hfin _ (ILes.refl _)
 · have hi := id_ne h2
   rw [if_neg (fun h => h2 h.1)]
   unfold idv idl at *
   refine PC.of_va (T := tb0) eqs2_ok tb_ok rfl mixed Tryd.func29 rfl rfl (Nat.le_of_ble_eq_true rfl) ?_; intro Γ C WK LP fin h0 hW hC hB hR hLP hfin
   (try (conv => whnf)); (repeat ((first | refine qT ?_ | refine qF ?_ | refine qO ?_ | (with_reducible intro z hz); (first | (replace hz := hz (by omega); subst hz) | subst hz)); (try (conv => whnf))))
   refine CallB.mk ([.clo 41 [.ptr 0 2 0]]) ([.box 2 [.imm (.int .i64 u.id.x), .imm (.int .i64 u.id.y), .imm (.int .i64 u.id.z), .imm (.int .i64 u.kind), .imm (.str u.label), .imm (.sl 4 (u.head.map wdv)), .imm (.sl 4 (u.words.map wdv)), .imm (.sl 8 (u.kids.map uv))]]) (hB _ _ _ _ _ (hPl)) ?_
   (try (conv => whnf)); (repeat ((first | refine qT ?_ | refine qF ?_ | refine qO ?_ | (with_reducible intro z hz); (first | (replace hz := hz (by omega); subst hz) | subst hz) | (refine CallV.mk _ (hC _ _ _ (PCw.of hFi)) (fun js hjs => ?_); subst hjs) | (refine CallV.mk _ (hC _ _ _ (PCw.of hIn)) (fun js hjs => ?_); subst hjs) | (refine CallV.mk _ (hC _ _ _ (PCw.of hWi)) (fun js hjs => ?_); subst hjs) | (refine CallV.mk _ (hC _ _ _ (PCw.of hPa)) (fun js hjs => ?_); subst hjs)); (try (conv => whnf))))
   exact hfin _ (ILes.refl _)
theorem move2_pc (u : Ut) (x : It) (hz : x.z = 2) (hc : u.count ≤ 10000) (hs : small u) (hp : ∀ s ∈ x.p, shortS s) (hq : ∀ s ∈ x.q, shortS s) : PC Tryd.prog envU 29 [uv u, itv x] (out3 (moveA u x)) := by
 have hPl := placer2_pcb u
 have hFi := find21_pc u x hc hp
 have hIn := ins_pc u x.q 2 hc hs hq
 have hnb := ins_bound u x.q 2
 unfold moveA
 rw [hz, if_pos (by decide)]
 have hue := uv_eq u
 have hxe := itv_eq x
 rw [hz] at hxe
 generalize oneA u x.p = o at hFi ⊢
 obtain ⟨t, e⟩ := o
 generalize insA u x.q 2 = q at hIn hnb ⊢
 obtain ⟨a, n, f⟩ := q
 have hWi := within_pc u a t hc
 have hPa := parent_pc t u (by omega)
 have hpb := par_bound (t := t) (u := u)
 dsimp only at hFi hIn hnb ⊢
 generalize withinB u a t = b at hWi ⊢
 generalize parV t u = r at hPa hpb ⊢
 obtain ⟨r1, r2, r3⟩ := r
 dsimp only at hPa hpb ⊢
 unfold out3 at hIn ⊢
 dsimp only at hIn
 rw [hxe] at hFi ⊢
 rw [hue] at hPl hFi hIn hWi hPa ⊢
 by_cases h0 : e = 0
 case neg =>
   rw [if_neg h0]
   unfold idv idl at *
   refine PC.of_va (T := tb0) eqs2_ok tb_ok rfl mixed Tryd.func29 rfl rfl (Nat.le_of_ble_eq_true rfl) ?_; intro Γ C WK LP fin h0 hW hC hB hR hLP hfin
   (try (conv => whnf)); (repeat ((first | refine qT ?_ | refine qF ?_ | refine qO ?_ | (with_reducible intro z hz); (first | (replace hz := hz (by omega); subst hz) | subst hz)); (try (conv => whnf))))
   refine CallB.mk ([.clo 43 [.ptr 0 2 0]]) ([.box 2 [.imm (.int .i64 u.id.x), .imm (.int .i64 u.id.y), .imm (.int .i64 u.id.z), .imm (.int .i64 u.kind), .imm (.str u.label), .imm (.sl 4 (u.head.map wdv)), .imm (.sl 4 (u.words.map wdv)), .imm (.sl 8 (u.kids.map uv))]]) (hB _ _ _ _ _ (hPl)) ?_
   (try (conv => whnf)); (repeat ((first | refine qT ?_ | refine qF ?_ | refine qO ?_ | (with_reducible intro z hz); (first | (replace hz := hz (by omega); subst hz) | subst hz) | (refine CallV.mk _ (hC _ _ _ (PCw.of hFi)) (fun js hjs => ?_); subst hjs)); (try (conv => whnf))))
   exact hfin _ (ILes.refl _)
 rw [if_pos h0]
 by_cases h1 : f = 0
 case neg =>
   rw [if_neg h1]
   unfold idv idl at *
   refine PC.of_va (T := tb0) eqs2_ok tb_ok rfl mixed Tryd.func29 rfl rfl (Nat.le_of_ble_eq_true rfl) ?_; intro Γ C WK LP fin h0 hW hC hB hR hLP hfin
   (try (conv => whnf)); (repeat ((first | refine qT ?_ | refine qF ?_ | refine qO ?_ | (with_reducible intro z hz); (first | (replace hz := hz (by omega); subst hz) | subst hz)); (try (conv => whnf))))
   refine CallB.mk ([.clo 43 [.ptr 0 2 0]]) ([.box 2 [.imm (.int .i64 u.id.x), .imm (.int .i64 u.id.y), .imm (.int .i64 u.id.z), .imm (.int .i64 u.kind), .imm (.str u.label), .imm (.sl 4 (u.head.map wdv)), .imm (.sl 4 (u.words.map wdv)), .imm (.sl 8 (u.kids.map uv))]]) (hB _ _ _ _ _ (hPl)) ?_
   (try (conv => whnf)); (repeat ((first | refine qT ?_ | refine qF ?_ | refine qO ?_ | (with_reducible intro z hz); (first | (replace hz := hz (by omega); subst hz) | subst hz) | (refine CallV.mk _ (hC _ _ _ (PCw.of hFi)) (fun js hjs => ?_); subst hjs) | (refine CallV.mk _ (hC _ _ _ (PCw.of hIn)) (fun js hjs => ?_); subst hjs)); (try (conv => whnf))))
   exact hfin _ (ILes.refl _)
 rw [if_pos h1]
 cases b
 case true =>
   rw [if_pos rfl]
   unfold idv idl at *
   refine PC.of_va (T := tb0) eqs2_ok tb_ok rfl mixed Tryd.func29 rfl rfl (Nat.le_of_ble_eq_true rfl) ?_; intro Γ C WK LP fin h0 hW hC hB hR hLP hfin
   (try (conv => whnf)); (repeat ((first | refine qT ?_ | refine qF ?_ | refine qO ?_ | (with_reducible intro z hz); (first | (replace hz := hz (by omega); subst hz) | subst hz)); (try (conv => whnf))))
   refine CallB.mk ([.clo 43 [.ptr 0 2 0]]) ([.box 2 [.imm (.int .i64 u.id.x), .imm (.int .i64 u.id.y), .imm (.int .i64 u.id.z), .imm (.int .i64 u.kind), .imm (.str u.label), .imm (.sl 4 (u.head.map wdv)), .imm (.sl 4 (u.words.map wdv)), .imm (.sl 8 (u.kids.map uv))]]) (hB _ _ _ _ _ (hPl)) ?_
   (try (conv => whnf)); (repeat ((first | refine qT ?_ | refine qF ?_ | refine qO ?_ | (with_reducible intro z hz); (first | (replace hz := hz (by omega); subst hz) | subst hz) | (refine CallV.mk _ (hC _ _ _ (PCw.of hFi)) (fun js hjs => ?_); subst hjs) | (refine CallV.mk _ (hC _ _ _ (PCw.of hIn)) (fun js hjs => ?_); subst hjs) | (refine CallV.mk _ (hC _ _ _ (PCw.of hWi)) (fun js hjs => ?_); subst hjs)); (try (conv => whnf))))
   exact hfin _ (ILes.refl _)
 rw [if_neg (by decide)]
 by_cases h2 : r1 = a
 · have hi := id_eq h2
   by_cases h3 : r2 < n
   · rw [if_pos ⟨h2, h3⟩]
     unfold idv idl at *
     refine PC.of_va (T := tb0) eqs2_ok tb_ok rfl mixed Tryd.func29 rfl rfl (Nat.le_of_ble_eq_true rfl) ?_; intro Γ C WK LP fin h0 hW hC hB hR hLP hfin
     (try (conv => whnf)); (repeat ((first | refine qT ?_ | refine qF ?_ | refine qO ?_ | (with_reducible intro z hz); (first | (replace hz := hz (by omega); subst hz) | subst hz)); (try (conv => whnf))))
     refine CallB.mk ([.clo 43 [.ptr 0 2 0]]) ([.box 2 [.imm (.int .i64 u.id.x), .imm (.int .i64 u.id.y), .imm (.int .i64 u.id.z), .imm (.int .i64 u.kind), .imm (.str u.label), .imm (.sl 4 (u.head.map wdv)), .imm (.sl 4 (u.words.map wdv)), .imm (.sl 8 (u.kids.map uv))]]) (hB _ _ _ _ _ (hPl)) ?_
     (try (conv => whnf)); (repeat ((first | refine qT ?_ | refine qF ?_ | refine qO ?_ | (with_reducible intro z hz); (first | (replace hz := hz (by omega); subst hz) | subst hz) | (refine CallV.mk _ (hC _ _ _ (PCw.of hFi)) (fun js hjs => ?_); subst hjs) | (refine CallV.mk _ (hC _ _ _ (PCw.of hIn)) (fun js hjs => ?_); subst hjs) | (refine CallV.mk _ (hC _ _ _ (PCw.of hWi)) (fun js hjs => ?_); subst hjs) | (refine CallV.mk _ (hC _ _ _ (PCw.of hPa)) (fun js hjs => ?_); subst hjs)); (try (conv => whnf))))
     exact hfin _ (ILes.refl _)
   · rw [if_neg (fun h => h3 h.2)]
     unfold idv idl at *
     refine PC.of_va (T := tb0) eqs2_ok tb_ok rfl mixed Tryd.func29 rfl rfl (Nat.le_of_ble_eq_true rfl) ?_; intro Γ C WK LP fin h0 hW hC hB hR hLP hfin
     (try (conv => whnf)); (repeat ((first | refine qT ?_ | refine qF ?_ | refine qO ?_ | (with_reducible intro z hz); (first | (replace hz := hz (by omega); subst hz) | subst hz)); (try (conv => whnf))))
     refine CallB.mk ([.clo 43 [.ptr 0 2 0]]) ([.box 2 [.imm (.int .i64 u.id.x), .imm (.int .i64 u.id.y), .imm (.int .i64 u.id.z), .imm (.int .i64 u.kind), .imm (.str u.label), .imm (.sl 4 (u.head.map wdv)), .imm (.sl 4 (u.words.map wdv)), .imm (.sl 8 (u.kids.map uv))]]) (hB _ _ _ _ _ (hPl)) ?_
     (try (conv => whnf)); (repeat ((first | refine qT ?_ | refine qF ?_ | refine qO ?_ | (with_reducible intro z hz); (first | (replace hz := hz (by omega); subst hz) | subst hz) | (refine CallV.mk _ (hC _ _ _ (PCw.of hFi)) (fun js hjs => ?_); subst hjs) | (refine CallV.mk _ (hC _ _ _ (PCw.of hIn)) (fun js hjs => ?_); subst hjs) | (refine CallV.mk _ (hC _ _ _ (PCw.of hWi)) (fun js hjs => ?_); subst hjs) | (refine CallV.mk _ (hC _ _ _ (PCw.of hPa)) (fun js hjs => ?_); subst hjs)); (try (conv => whnf))))
     exact hfin _ (ILes.refl _)
 · have hi := id_ne h2
   rw [if_neg (fun h => h2 h.1)]
   unfold idv idl at *
   refine PC.of_va (T := tb0) eqs2_ok tb_ok rfl mixed Tryd.func29 rfl rfl (Nat.le_of_ble_eq_true rfl) ?_; intro Γ C WK LP fin h0 hW hC hB hR hLP hfin
   (try (conv => whnf)); (repeat ((first | refine qT ?_ | refine qF ?_ | refine qO ?_ | (with_reducible intro z hz); (first | (replace hz := hz (by omega); subst hz) | subst hz)); (try (conv => whnf))))
   refine CallB.mk ([.clo 43 [.ptr 0 2 0]]) ([.box 2 [.imm (.int .i64 u.id.x), .imm (.int .i64 u.id.y), .imm (.int .i64 u.id.z), .imm (.int .i64 u.kind), .imm (.str u.label), .imm (.sl 4 (u.head.map wdv)), .imm (.sl 4 (u.words.map wdv)), .imm (.sl 8 (u.kids.map uv))]]) (hB _ _ _ _ _ (hPl)) ?_
   (try (conv => whnf)); (repeat ((first | refine qT ?_ | refine qF ?_ | refine qO ?_ | (with_reducible intro z hz); (first | (replace hz := hz (by omega); subst hz) | subst hz) | (refine CallV.mk _ (hC _ _ _ (PCw.of hFi)) (fun js hjs => ?_); subst hjs) | (refine CallV.mk _ (hC _ _ _ (PCw.of hIn)) (fun js hjs => ?_); subst hjs) | (refine CallV.mk _ (hC _ _ _ (PCw.of hWi)) (fun js hjs => ?_); subst hjs) | (refine CallV.mk _ (hC _ _ _ (PCw.of hPa)) (fun js hjs => ?_); subst hjs)); (try (conv => whnf))))
   exact hfin _ (ILes.refl _)
theorem move3_pc (u : Ut) (x : It) (hz : x.z = 3) (hc : u.count ≤ 10000) (hs : small u) (hp : ∀ s ∈ x.p, shortS s) (hq : ∀ s ∈ x.q, shortS s) : PC Tryd.prog envU 29 [uv u, itv x] (out3 (moveA u x)) := by
 have hPl := placer3_pcb u
 have hFi := find21_pc u x hc hp
 have hIn := ins_pc u x.q 3 hc hs hq
 have hnb := ins_bound u x.q 3
 unfold moveA
 rw [hz, if_pos (by decide)]
 have hue := uv_eq u
 have hxe := itv_eq x
 rw [hz] at hxe
 generalize oneA u x.p = o at hFi ⊢
 obtain ⟨t, e⟩ := o
 generalize insA u x.q 3 = q at hIn hnb ⊢
 obtain ⟨a, n, f⟩ := q
 have hWi := within_pc u a t hc
 have hPa := parent_pc t u (by omega)
 have hpb := par_bound (t := t) (u := u)
 dsimp only at hFi hIn hnb ⊢
 generalize withinB u a t = b at hWi ⊢
 generalize parV t u = r at hPa hpb ⊢
 obtain ⟨r1, r2, r3⟩ := r
 dsimp only at hPa hpb ⊢
 unfold out3 at hIn ⊢
 dsimp only at hIn
 rw [hxe] at hFi ⊢
 rw [hue] at hPl hFi hIn hWi hPa ⊢
 by_cases h0 : e = 0
 case neg =>
   rw [if_neg h0]
   unfold idv idl at *
   refine PC.of_va (T := tb0) eqs2_ok tb_ok rfl mixed Tryd.func29 rfl rfl (Nat.le_of_ble_eq_true rfl) ?_; intro Γ C WK LP fin h0 hW hC hB hR hLP hfin
   (try (conv => whnf)); (repeat ((first | refine qT ?_ | refine qF ?_ | refine qO ?_ | (with_reducible intro z hz); (first | (replace hz := hz (by omega); subst hz) | subst hz)); (try (conv => whnf))))
   refine CallB.mk ([.clo 45 [.ptr 0 2 0]]) ([.box 2 [.imm (.int .i64 u.id.x), .imm (.int .i64 u.id.y), .imm (.int .i64 u.id.z), .imm (.int .i64 u.kind), .imm (.str u.label), .imm (.sl 4 (u.head.map wdv)), .imm (.sl 4 (u.words.map wdv)), .imm (.sl 8 (u.kids.map uv))]]) (hB _ _ _ _ _ (hPl)) ?_
   (try (conv => whnf)); (repeat ((first | refine qT ?_ | refine qF ?_ | refine qO ?_ | (with_reducible intro z hz); (first | (replace hz := hz (by omega); subst hz) | subst hz) | (refine CallV.mk _ (hC _ _ _ (PCw.of hFi)) (fun js hjs => ?_); subst hjs)); (try (conv => whnf))))
   exact hfin _ (ILes.refl _)
 rw [if_pos h0]
 by_cases h1 : f = 0
 case neg =>
   rw [if_neg h1]
   unfold idv idl at *
   refine PC.of_va (T := tb0) eqs2_ok tb_ok rfl mixed Tryd.func29 rfl rfl (Nat.le_of_ble_eq_true rfl) ?_; intro Γ C WK LP fin h0 hW hC hB hR hLP hfin
   (try (conv => whnf)); (repeat ((first | refine qT ?_ | refine qF ?_ | refine qO ?_ | (with_reducible intro z hz); (first | (replace hz := hz (by omega); subst hz) | subst hz)); (try (conv => whnf))))
   refine CallB.mk ([.clo 45 [.ptr 0 2 0]]) ([.box 2 [.imm (.int .i64 u.id.x), .imm (.int .i64 u.id.y), .imm (.int .i64 u.id.z), .imm (.int .i64 u.kind), .imm (.str u.label), .imm (.sl 4 (u.head.map wdv)), .imm (.sl 4 (u.words.map wdv)), .imm (.sl 8 (u.kids.map uv))]]) (hB _ _ _ _ _ (hPl)) ?_
   (try (conv => whnf)); (repeat ((first | refine qT ?_ | refine qF ?_ | refine qO ?_ | (with_reducible intro z hz); (first | (replace hz := hz (by omega); subst hz) | subst hz) | (refine CallV.mk _ (hC _ _ _ (PCw.of hFi)) (fun js hjs => ?_); subst hjs) | (refine CallV.mk _ (hC _ _ _ (PCw.of hIn)) (fun js hjs => ?_); subst hjs)); (try (conv => whnf))))
   exact hfin _ (ILes.refl _)
 rw [if_pos h1]
 cases b
 case true =>
   rw [if_pos rfl]
   unfold idv idl at *
   refine PC.of_va (T := tb0) eqs2_ok tb_ok rfl mixed Tryd.func29 rfl rfl (Nat.le_of_ble_eq_true rfl) ?_; intro Γ C WK LP fin h0 hW hC hB hR hLP hfin
   (try (conv => whnf)); (repeat ((first | refine qT ?_ | refine qF ?_ | refine qO ?_ | (with_reducible intro z hz); (first | (replace hz := hz (by omega); subst hz) | subst hz)); (try (conv => whnf))))
   refine CallB.mk ([.clo 45 [.ptr 0 2 0]]) ([.box 2 [.imm (.int .i64 u.id.x), .imm (.int .i64 u.id.y), .imm (.int .i64 u.id.z), .imm (.int .i64 u.kind), .imm (.str u.label), .imm (.sl 4 (u.head.map wdv)), .imm (.sl 4 (u.words.map wdv)), .imm (.sl 8 (u.kids.map uv))]]) (hB _ _ _ _ _ (hPl)) ?_
   (try (conv => whnf)); (repeat ((first | refine qT ?_ | refine qF ?_ | refine qO ?_ | (with_reducible intro z hz); (first | (replace hz := hz (by omega); subst hz) | subst hz) | (refine CallV.mk _ (hC _ _ _ (PCw.of hFi)) (fun js hjs => ?_); subst hjs) | (refine CallV.mk _ (hC _ _ _ (PCw.of hIn)) (fun js hjs => ?_); subst hjs) | (refine CallV.mk _ (hC _ _ _ (PCw.of hWi)) (fun js hjs => ?_); subst hjs)); (try (conv => whnf))))
   exact hfin _ (ILes.refl _)
 rw [if_neg (by decide)]
 by_cases h2 : r1 = a
 · have hi := id_eq h2
   by_cases h3 : r2 < n
   · rw [if_pos ⟨h2, h3⟩]
     unfold idv idl at *
     refine PC.of_va (T := tb0) eqs2_ok tb_ok rfl mixed Tryd.func29 rfl rfl (Nat.le_of_ble_eq_true rfl) ?_; intro Γ C WK LP fin h0 hW hC hB hR hLP hfin
     (try (conv => whnf)); (repeat ((first | refine qT ?_ | refine qF ?_ | refine qO ?_ | (with_reducible intro z hz); (first | (replace hz := hz (by omega); subst hz) | subst hz)); (try (conv => whnf))))
     refine CallB.mk ([.clo 45 [.ptr 0 2 0]]) ([.box 2 [.imm (.int .i64 u.id.x), .imm (.int .i64 u.id.y), .imm (.int .i64 u.id.z), .imm (.int .i64 u.kind), .imm (.str u.label), .imm (.sl 4 (u.head.map wdv)), .imm (.sl 4 (u.words.map wdv)), .imm (.sl 8 (u.kids.map uv))]]) (hB _ _ _ _ _ (hPl)) ?_
     (try (conv => whnf)); (repeat ((first | refine qT ?_ | refine qF ?_ | refine qO ?_ | (with_reducible intro z hz); (first | (replace hz := hz (by omega); subst hz) | subst hz) | (refine CallV.mk _ (hC _ _ _ (PCw.of hFi)) (fun js hjs => ?_); subst hjs) | (refine CallV.mk _ (hC _ _ _ (PCw.of hIn)) (fun js hjs => ?_); subst hjs) | (refine CallV.mk _ (hC _ _ _ (PCw.of hWi)) (fun js hjs => ?_); subst hjs) | (refine CallV.mk _ (hC _ _ _ (PCw.of hPa)) (fun js hjs => ?_); subst hjs)); (try (conv => whnf))))
     exact hfin _ (ILes.refl _)
   · rw [if_neg (fun h => h3 h.2)]
     unfold idv idl at *
     refine PC.of_va (T := tb0) eqs2_ok tb_ok rfl mixed Tryd.func29 rfl rfl (Nat.le_of_ble_eq_true rfl) ?_; intro Γ C WK LP fin h0 hW hC hB hR hLP hfin
     (try (conv => whnf)); (repeat ((first | refine qT ?_ | refine qF ?_ | refine qO ?_ | (with_reducible intro z hz); (first | (replace hz := hz (by omega); subst hz) | subst hz)); (try (conv => whnf))))
     refine CallB.mk ([.clo 45 [.ptr 0 2 0]]) ([.box 2 [.imm (.int .i64 u.id.x), .imm (.int .i64 u.id.y), .imm (.int .i64 u.id.z), .imm (.int .i64 u.kind), .imm (.str u.label), .imm (.sl 4 (u.head.map wdv)), .imm (.sl 4 (u.words.map wdv)), .imm (.sl 8 (u.kids.map uv))]]) (hB _ _ _ _ _ (hPl)) ?_
     (try (conv => whnf)); (repeat ((first | refine qT ?_ | refine qF ?_ | refine qO ?_ | (with_reducible intro z hz); (first | (replace hz := hz (by omega); subst hz) | subst hz) | (refine CallV.mk _ (hC _ _ _ (PCw.of hFi)) (fun js hjs => ?_); subst hjs) | (refine CallV.mk _ (hC _ _ _ (PCw.of hIn)) (fun js hjs => ?_); subst hjs) | (refine CallV.mk _ (hC _ _ _ (PCw.of hWi)) (fun js hjs => ?_); subst hjs) | (refine CallV.mk _ (hC _ _ _ (PCw.of hPa)) (fun js hjs => ?_); subst hjs)); (try (conv => whnf))))
     exact hfin _ (ILes.refl _)
 · have hi := id_ne h2
   rw [if_neg (fun h => h2 h.1)]
   unfold idv idl at *
   refine PC.of_va (T := tb0) eqs2_ok tb_ok rfl mixed Tryd.func29 rfl rfl (Nat.le_of_ble_eq_true rfl) ?_; intro Γ C WK LP fin h0 hW hC hB hR hLP hfin
   (try (conv => whnf)); (repeat ((first | refine qT ?_ | refine qF ?_ | refine qO ?_ | (with_reducible intro z hz); (first | (replace hz := hz (by omega); subst hz) | subst hz)); (try (conv => whnf))))
   refine CallB.mk ([.clo 45 [.ptr 0 2 0]]) ([.box 2 [.imm (.int .i64 u.id.x), .imm (.int .i64 u.id.y), .imm (.int .i64 u.id.z), .imm (.int .i64 u.kind), .imm (.str u.label), .imm (.sl 4 (u.head.map wdv)), .imm (.sl 4 (u.words.map wdv)), .imm (.sl 8 (u.kids.map uv))]]) (hB _ _ _ _ _ (hPl)) ?_
   (try (conv => whnf)); (repeat ((first | refine qT ?_ | refine qF ?_ | refine qO ?_ | (with_reducible intro z hz); (first | (replace hz := hz (by omega); subst hz) | subst hz) | (refine CallV.mk _ (hC _ _ _ (PCw.of hFi)) (fun js hjs => ?_); subst hjs) | (refine CallV.mk _ (hC _ _ _ (PCw.of hIn)) (fun js hjs => ?_); subst hjs) | (refine CallV.mk _ (hC _ _ _ (PCw.of hWi)) (fun js hjs => ?_); subst hjs) | (refine CallV.mk _ (hC _ _ _ (PCw.of hPa)) (fun js hjs => ?_); subst hjs)); (try (conv => whnf))))
   exact hfin _ (ILes.refl _)
theorem moveN_pc (u : Ut) (x : It) (hz : ¬ (0 ≤ x.z ∧ x.z ≤ 3)) : PC Tryd.prog envU 29 [uv u, itv x] (out3 (moveA u x)) := by
 have hPl := placerN_pcb u x.z hz
 unfold moveA
 rw [if_neg hz]
 have hue := uv_eq u
 have hxe := itv_eq x
 unfold out3
 rw [hxe]
 rw [hue] at hPl ⊢
 unfold idv idl at *
 refine PC.of_va (T := tb0) eqs2_ok tb_ok rfl mixed Tryd.func29 rfl rfl (Nat.le_of_ble_eq_true rfl) ?_; intro Γ C WK LP fin h0 hW hC hB hR hLP hfin
 (try (conv => whnf)); (repeat ((first | refine qT ?_ | refine qF ?_ | refine qO ?_ | (with_reducible intro z hz); (first | (replace hz := hz (by omega); subst hz) | subst hz)); (try (conv => whnf))))
 refine CallB.mk ([.imm .nf]) ([.box 2 [.imm (.int .i64 u.id.x), .imm (.int .i64 u.id.y), .imm (.int .i64 u.id.z), .imm (.int .i64 u.kind), .imm (.str u.label), .imm (.sl 4 (u.head.map wdv)), .imm (.sl 4 (u.words.map wdv)), .imm (.sl 8 (u.kids.map uv))]]) (hB _ _ _ _ _ (hPl)) ?_
 (try (conv => whnf)); (repeat ((first | refine qT ?_ | refine qF ?_ | refine qO ?_ | (with_reducible intro z hz); (first | (replace hz := hz (by omega); subst hz) | subst hz)); (try (conv => whnf))))
 exact hfin _ (ILes.refl _)
theorem move_pc (u : Ut) (x : It) (hc : u.count ≤ 10000) (hs : small u) (hp : ∀ s ∈ x.p, shortS s) (hq : ∀ s ∈ x.q, shortS s) : PC Tryd.prog envU 29 [uv u, itv x] (out3 (moveA u x)) := by
 by_cases hz : 0 ≤ x.z ∧ x.z ≤ 3
 · obtain h | h | h | h : x.z = 0 ∨ x.z = 1 ∨ x.z = 2 ∨ x.z = 3 := by omega
   · exact move0_pc u x h hc hs hp hq
   · exact move1_pc u x h hc hs hp hq
   · exact move2_pc u x h hc hs hp hq
   · exact move3_pc u x h hc hs hp hq
 · exact moveN_pc u x hz
noncomputable def destA (u : Ut) (x : It) : Trip × Int × Int := if x.kind = 0 then insA u x.p x.z else if x.kind = 6 then moveA u x else (Trip.zero, 0, 1)
theorem dest_pc (u : Ut) (x : It) (hc : u.count ≤ 10000) (hs : small u) (hp : ∀ s ∈ x.p, shortS s) (hq : ∀ s ∈ x.q, shortS s) : PC Tryd.prog envU 17 [uv u, itv x] (out3 (destA u x)) := by
 have hIn := ins_pc u x.p x.z hc hs hp
 have hMv := move_pc u x hc hs hp hq
 have hue := uv_eq u
 have hxe := itv_eq x
 unfold destA
 generalize insA u x.p x.z = q at hIn ⊢
 generalize moveA u x = r at hMv ⊢
 unfold out3 at *
 rw [hxe] at hMv ⊢
 rw [hue] at hIn hMv ⊢
 by_cases h0 : x.kind = 0
 · rw [if_pos h0]
   unfold idv idl at *
   refine PC.of_va (T := tb0) eqs2_ok tb_ok rfl mixed Tryd.func17 rfl rfl (Nat.le_of_ble_eq_true rfl) ?_; intro Γ C WK LP fin h0 hW hC hB hR hLP hfin
   (try (conv => whnf)); (repeat ((first | refine qT ?_ | refine qF ?_ | refine qO ?_ | (with_reducible intro z hz); (first | (replace hz := hz (by omega); subst hz) | subst hz) | (refine CallV.mk _ (hC _ _ _ (PCw.of hIn)) (fun js hjs => ?_); subst hjs)); (try (conv => whnf))))
   exact hfin _ (ILes.refl _)
 rw [if_neg h0]
 by_cases h6 : x.kind = 6
 · rw [if_pos h6]
   unfold idv idl at *
   refine PC.of_va (T := tb0) eqs2_ok tb_ok rfl mixed Tryd.func17 rfl rfl (Nat.le_of_ble_eq_true rfl) ?_; intro Γ C WK LP fin h0 hW hC hB hR hLP hfin
   (try (conv => whnf)); (repeat ((first | refine qT ?_ | refine qF ?_ | refine qO ?_ | (with_reducible intro z hz); (first | (replace hz := hz (by omega); subst hz) | subst hz) | (refine CallV.mk _ (hC _ _ _ (PCw.of hMv)) (fun js hjs => ?_); subst hjs)); (try (conv => whnf))))
   exact hfin _ (ILes.refl _)
 · rw [if_neg h6]
   unfold idv idl at *
   refine PC.of_va (T := tb0) eqs2_ok tb_ok rfl mixed Tryd.func17 rfl rfl (Nat.le_of_ble_eq_true rfl) ?_; intro Γ C WK LP fin h0 hW hC hB hR hLP hfin
   (try (conv => whnf)); (repeat ((first | refine qT ?_ | refine qF ?_ | refine qO ?_ | (with_reducible intro z hz); (first | (replace hz := hz (by omega); subst hz) | subst hz)); (try (conv => whnf))))
   exact hfin _ (ILes.refl _)
end Go.Proofs.YtiohjjgncbhimaaDoor.Pk
