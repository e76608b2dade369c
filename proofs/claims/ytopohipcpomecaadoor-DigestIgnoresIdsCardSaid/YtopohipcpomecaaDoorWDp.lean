/-
  The law's plain (words without marks) and bare.
-/
import Derived.Test.YtopohipcpomecaaDoorWDm
namespace Go.Proofs.YtopohipcpomecaaDoor.Pd
open Go Go.Pv Go.RowKit Go.Proofs.YtopohipcpomecaaDoor.Pu Go.Proofs.YtopohipcpomecaaDoor.Pb
set_option linter.unusedSimpArgs false
open Lab Lcs Go.Proofs.YtopohipcpomecaaDoor
set_option maxRecDepth 10000
set_option maxHeartbeats 16000000
theorem plain_pc (w : List Wd) (hw : w.length ≤ 1000000) : PC Tryd.prog envH 35 [.sl 4 (w.map wdv)] [.sl 4 ((bareW w).map wdv)] := by
 have hml : (w.map wdv).length = w.length := List.length_map _
 refine PC.of_va (T := tbi) eqs_ok tbi_ok rfl mixed Tryd.func35 rfl rfl (Nat.le_of_ble_eq_true rfl) ?_; intro Γ C WK LP fin h0 hW hC hB hR hLP hfin
 (try (conv => whnf)); (repeat ((first | refine qT ?_ | refine qF ?_ | refine qO ?_ | (with_reducible intro z hz); (first | (replace hz := hz (by omega); subst hz) | subst hz)); (try (conv => whnf))))
 refine hLP _ _ _ Nat (fun k => ⟨[(3, .row 0 1), (7, .imm (.sl 4 (w.map wdv))), (8, .imm (.int .i64 (w.length : Nat))), (9, .imm (.int .i64 (k : Nat)))], [.row 53 4 1 (((bareW (w.take k)).map wdv).map .imm)]⟩) (fun k => k ≤ w.length) (fun k => w.length - k) 0 (Nat.zero_le _) (((WeakA.row 0 (((bareW (w.take 0)).map wdv).map .imm) rfl (by simp [bareW]))).trans (qSL 1 rfl rfl)) ?_
 intro k hk
 have hho := Nat.lt_or_ge k w.length
 cases hho with
 | inl hlt =>
   obtain ⟨x, hx⟩ : ∃ x, w[k]? = some x := ⟨w[k], List.getElem?_eq_getElem hlt⟩
   have hrl : (((bareW (w.take k)).map wdv).map PV.imm).length = k := by simp [bareW]; omega
   have hrl2 : (bareW (w.take k)).length = k := by simp [bareW]; omega
   (try (conv => whnf)); (repeat ((first | refine qT ?_ | refine qF ?_ | refine qO ?_ | (with_reducible intro z hz); (first | (replace hz := hz (by omega); subst hz) | subst hz)); (try (conv => whnf))))
   refine Idx.mk k (wdv x) _ rfl (by simp [hx]) rfl ?_
   (try (conv => whnf)); (repeat ((first | refine qT ?_ | refine qF ?_ | refine qO ?_ | (with_reducible intro z hz); (first | (replace hz := hz (by omega); subst hz) | subst hz)); (try (conv => whnf))))
   exact ⟨k + 1, by omega, by dsimp only; omega, ((WeakA.row 0 (((bareW (w.take (k + 1))).map wdv).map .imm) rfl (by rw [take_at hx]; simp [bareW, Wd.bare, wdv, Trip.zero]))).trans ((WeakA.renew 0 1 rfl (by first | omega | (intro _; rw [hk0 _ _ rfl]; exact Nat.le_of_ble_eq_true rfl)) (by repeat (first | exact trivial | refine And.intro (rgL_imms _ _ _ _) ?_ | refine And.intro rfl ?_))).trans (qSL 1 rfl rfl))⟩
 | inr hge =>
   (try (conv => whnf)); (repeat ((first | refine qT ?_ | refine qF ?_ | refine qO ?_ | (with_reducible intro z hz); (first | (replace hz := hz (by omega); subst hz) | subst hz)); (try (conv => whnf))))
   obtain rfl : k = w.length := by omega
   refine Imms.mk ((bareW w).map wdv) (by rw [List.take_length]) ?_
   exact hfin _ (ILes.refl _)
theorem strips_map : ∀ l : List Ut, Ut.strips l = l.map Ut.strip
 | [] => by simp [Ut.strips]
 | u :: r => by simp [Ut.strips, strips_map r]
theorem strip_eq' (u : Ut) : u.strip = .mk .zero u.kind u.label (bareW u.head) (bareW u.words) (u.kids.map Ut.strip) := by
 cases u with
 | mk id kind label head words kids => rw [Ut.strip, strips_map]; rfl
abbrev zbox : Blk := .box 1 [.imm (.int .i64 0), .imm (.int .i64 0), .imm (.int .i64 0), .imm (.int .i64 0), .imm (.str ⟨#[]⟩), .imm .nil, .imm .nil, .imm .nil]
def SmW (u : Ut) : Prop := ∀ x ∈ u.all, x.head.length ≤ 1000000 ∧ x.words.length ≤ 1000000 ∧ x.kids.length ≤ 1000000
theorem SmW.self {u : Ut} (h : SmW u) : u.head.length ≤ 1000000 ∧ u.words.length ≤ 1000000 ∧ u.kids.length ≤ 1000000 := h u (by rw [Ut.all_eq]; exact List.mem_cons_self)
theorem SmW.kid {u k : Ut} (h : SmW u) (hk : k ∈ u.kids) : SmW k := fun x hx => h x (by rw [Ut.all_eq]; exact List.mem_cons_of_mem _ (mem_alls.2 ⟨k, hk, hx⟩))
theorem bare_pc (N : Nat) : ∀ u : Ut, u.count ≤ N → SmW u → PC Tryd.prog envH 18 [uv u] [uv u.strip] := by
 induction N with
 | zero => intro u h; have := count_pos u; omega
 | succ N ih =>
 intro u hN hsb
 have hue := uv_eq u
 obtain ⟨b1, b2, b3⟩ := hsb.self
 have hW1 := plain_pc u.head (by omega)
 have hW2 := plain_pc u.words (by omega)
 have hkl : (u.kids.map uv).length = u.kids.length := List.length_map _
 rw [hue, strip_eq', uv_mk]
 refine PC.of_va (T := tbi) eqs_ok tbi_ok rfl mixed Tryd.func18 rfl rfl (Nat.le_of_ble_eq_true rfl) ?_; intro Γ C WK LP fin h0 hW hC hB hR hLP hfin
 (try (conv => whnf)); (repeat ((first | refine qT ?_ | refine qF ?_ | refine qO ?_ | (with_reducible intro z hz); (first | (replace hz := hz (by omega); subst hz) | subst hz) | (refine CallV.mk _ (hC _ _ _ (PCw.of hW1)) (fun js hjs => ?_); subst hjs) | (refine CallV.mk _ (hC _ _ _ (PCw.of hW2)) (fun js hjs => ?_); subst hjs)); (try (conv => whnf))))
 refine hLP _ _ _ Nat (fun k => ⟨[(1, .ptr 0 1 0), (2, .ptr 1 1 0), (3, .row 4 1), (18, .imm (.sl 8 (u.kids.map uv))), (19, .imm (.int .i64 (u.kids.length : Nat))), (20, .imm (.int .i64 (k : Nat)))], [.box 1 [.imm (.int .i64 0), .imm (.int .i64 0), .imm (.int .i64 0), .imm (.int .i64 u.kind), .imm (.str u.label), .imm (.sl 4 ((bareW u.head).map wdv)), .imm (.sl 4 ((bareW u.words).map wdv)), .imm (.sl 8 (u.kids.map uv))], zbox, .dead 0, .dead 0, .row 30 8 1 ((((u.kids.take k).map Ut.strip).map uv).map .imm)]⟩) (fun k => k ≤ u.kids.length) (fun k => u.kids.length - k) 0 (Nat.zero_le _) (qSL 5 rfl rfl) ?_
 intro k hk
 have hho := Nat.lt_or_ge k u.kids.length
 cases hho with
 | inl hlt =>
   refine (?_ : ∀ Q : Exit → AS → Prop, vcS _ _ _ _ _ _ _ (loopQA _ _ _ _ _ _ Q)) _; intro Q
   obtain ⟨x, hx⟩ : ∃ x, u.kids[k]? = some x := ⟨u.kids[k], List.getElem?_eq_getElem hlt⟩
   have h1 := kid_lt' hx
   have hrl : ((((u.kids.take k).map Ut.strip).map uv).map PV.imm).length = k := by simp; omega
   have hux := uv_eq x
   have hI := ih x (by omega) (hsb.kid (List.mem_of_getElem? hx))
   have hsx := uv_eq x.strip
   rw [hux, hsx] at hI
   (try (conv => whnf)); (repeat ((first | refine qT ?_ | refine qF ?_ | refine qO ?_ | (with_reducible intro z hz); (first | (replace hz := hz (by omega); subst hz) | subst hz)); (try (conv => whnf))))
   refine Idx.mk k (uv x) _ rfl (by simp [hx]) (by rw [hux]; try rfl) ?_
   (try (conv => whnf)); (repeat ((first | refine qT ?_ | refine qF ?_ | refine qO ?_ | (with_reducible intro z hz); (first | (replace hz := hz (by omega); subst hz) | subst hz) | (refine CallV.mk _ (hC _ _ _ (PCw.of hI)) (fun js hjs => ?_); subst hjs)); (try (conv => whnf))))
   exact ⟨k + 1, by omega, by dsimp only; omega, ((WeakA.row 4 ((((u.kids.take (k + 1)).map Ut.strip).map uv).map .imm) rfl (by rw [take_at hx]; simp [hsx]))).trans ((WeakA.renew 4 1 rfl (by first | omega | (intro _; rw [hk0 _ _ rfl]; exact Nat.le_of_ble_eq_true rfl)) (by repeat (first | exact trivial | refine And.intro (rgL_imms _ _ _ _) ?_ | refine And.intro rfl ?_))).trans (qSL 5 rfl rfl))⟩
 | inr hge =>
   obtain rfl : k = u.kids.length := by omega
   (try (conv => whnf)); (repeat ((first | refine qT ?_ | refine qF ?_ | refine qO ?_ | (with_reducible intro z hz); (first | (replace hz := hz (by omega); subst hz) | subst hz)); (try (conv => whnf))))
   refine Imms.mk (((u.kids.map Ut.strip)).map uv) (by rw [List.take_length]) ?_
   exact hfin _ (ILes.refl _)
end Go.Proofs.YtopohipcpomecaaDoor.Pd
