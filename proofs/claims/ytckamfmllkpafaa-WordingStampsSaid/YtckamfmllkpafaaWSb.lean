/-
  Trees of units: the reference's Same (of equal trees), Bared, Strip.
-/
import Derived.Test.YtckamfmllkpafaaWSa
namespace Go.Proofs.Ytckamfmllkpafaa.Pw
open Go Go.Pv Go.RowKit Go.Proofs.Ytckamfmllkpafaa.Pu Go.Proofs.Ytckamfmllkpafaa.Pb
set_option linter.unusedSimpArgs false
open Lab Lcs Go.Proofs.Ytckamfmllkpafaa
set_option maxRecDepth 10000
set_option maxHeartbeats 16000000
def Sml (u : Ut) : Prop := ∀ x ∈ u.all, x.head.length ≤ 300 ∧ x.words.length ≤ 300 ∧ x.kids.length ≤ 1000
theorem Sml.self {u : Ut} (h : Sml u) : u.head.length ≤ 300 ∧ u.words.length ≤ 300 ∧ u.kids.length ≤ 1000 := h u (by rw [Ut.all_eq]; exact List.mem_cons_self)
theorem Sml.kid {u k : Ut} (h : Sml u) (hk : k ∈ u.kids) : Sml k := fun x hx => h x (kid_all' hk x hx)
theorem Small.sml {n : Nat} {u : Ut} (h : Small n u) (hn : n ≤ 1000) : Sml u := fun x hx => by
 obtain ⟨h1, _, h3⟩ := h
 have hb := List.all_eq_true.1 h3 x hx
 unfold fewB shortW at hb
 simp only [Bool.and_eq_true, decide_eq_true_eq] at hb
 have h4 := sub_count _ u x (Nat.le_refl _) hx
 have h5 := kids_counts x.kids
 have h6 := Ut.count_eq x
 exact ⟨by omega, by omega, by omega⟩
theorem same6_pc (N : Nat) : ∀ u : Ut, u.count ≤ N → Sml u → PC Try.prog env0 8 [uv u, uv u] [.bool true] := by
 induction N with
 | zero => intro u h; have := count_pos u; omega
 | succ N ih =>
 intro u hN hsb
 have hue := uv_eq u
 obtain ⟨b1, b2, b3⟩ := hsb.self
 have hW1 := rows_pc u.head u.head (by omega) (by omega)
 have hW2 := rows_pc u.words u.words (by omega) (by omega)
 rw [decide_eq_true rfl] at hW1 hW2
 have hkl : (u.kids.map uv).length = u.kids.length := List.length_map _
 have hid : eqC [.int .i64 u.id.x, .int .i64 u.id.y, .int .i64 u.id.z] [.int .i64 u.id.x, .int .i64 u.id.y, .int .i64 u.id.z] = true := by simp [eqC]
 rw [hue]
 refine PC.of_va (T := tbs) eqs_ok tbs_ok rfl mixed Try.func8 rfl rfl (Nat.le_of_ble_eq_true rfl) ?_; intro Γ C WK LP fin h0 hW hC hB hR hLP hfin
 (try (conv => whnf)); (repeat ((first | refine qT ?_ | refine qF ?_ | refine qO ?_ | (with_reducible intro z hz); (first | (replace hz := hz (by omega); subst hz) | subst hz) | (refine CallV.mk _ (hC _ _ _ (PCw.of hW1)) (fun js hjs => ?_); subst hjs) | (refine CallV.mk _ (hC _ _ _ (PCw.of hW2)) (fun js hjs => ?_); subst hjs)); (try (conv => whnf))))
 refine hLP _ _ _ Nat (fun k => ⟨[(2, .ptr 0 1 0), (3, .ptr 1 1 0), (5, .imm (.int .i64 (k : Nat)))], [.box 1 [.imm (.int .i64 u.id.x), .imm (.int .i64 u.id.y), .imm (.int .i64 u.id.z), .imm (.int .i64 u.kind), .imm (.str u.label), .imm (.sl 4 (u.head.map wdv)), .imm (.sl 4 (u.words.map wdv)), .imm (.sl 8 (u.kids.map uv))], .box 1 [.imm (.int .i64 u.id.x), .imm (.int .i64 u.id.y), .imm (.int .i64 u.id.z), .imm (.int .i64 u.kind), .imm (.str u.label), .imm (.sl 4 (u.head.map wdv)), .imm (.sl 4 (u.words.map wdv)), .imm (.sl 8 (u.kids.map uv))]]⟩) (fun k => k ≤ u.kids.length) (fun k => u.kids.length - k) 0 (Nat.zero_le _) (qSL 2 rfl rfl (hE := by (repeat ((conv => whnf); first | exact trivial | refine And.intro (by first | exact WkOne.any | exact WkOne.eq (by with_reducible rfl) rfl | exact WkOne.eq (congrArg (fun z => PV.imm (IV.int IntKind.i64 z)) (by first | omega | (simp [hkl]; done) | (simp [hkl]; omega))) rfl | exact WkOne.eq (by first | (simp [hkl]; done) | fail) rfl | exact WkOne.eq rfl rfl | exact WkOne.le rfl (ILe.nil _)) ?_)))) ?_
 intro k hk
 have hho := Nat.lt_or_ge k u.kids.length
 cases hho with
 | inl hlt =>
   refine (?_ : ∀ Q : Exit → AS → Prop, vcS _ _ _ _ _ _ _ (loopQA _ _ _ _ _ _ Q)) _; intro Q
   obtain ⟨x, hx⟩ : ∃ x, u.kids[k]? = some x := ⟨u.kids[k], List.getElem?_eq_getElem hlt⟩
   have h1 := kid_lt' hx
   have hux := uv_eq x
   have hI := ih x (by omega) (hsb.kid (List.mem_of_getElem? hx))
   rw [hux] at hI
   (try (conv => whnf)); (repeat ((first | refine qT ?_ | refine qF ?_ | refine qO ?_ | (with_reducible intro z hz); (first | (replace hz := hz (by omega); subst hz) | subst hz)); (try (conv => whnf))))
   refine Idx.mk k (uv x) _ rfl (by simp [hx]) (by rw [hux]; try rfl) ?_
   (try (conv => whnf)); (repeat ((first | refine qT ?_ | refine qF ?_ | refine qO ?_ | (with_reducible intro z hz); (first | (replace hz := hz (by omega); subst hz) | subst hz)); (try (conv => whnf))))
   refine Idx.mk k (uv x) _ rfl (by simp [hx]) (by rw [hux]; try rfl) ?_
   (try (conv => whnf)); (repeat ((first | refine qT ?_ | refine qF ?_ | refine qO ?_ | (with_reducible intro z hz); (first | (replace hz := hz (by omega); subst hz) | subst hz) | (refine CallV.mk _ (hC _ _ _ (PCw.of hI)) (fun js hjs => ?_); subst hjs)); (try (conv => whnf))))
   exact ⟨k + 1, by omega, by dsimp only; omega, (qSL 2 rfl rfl)⟩
 | inr hge =>
   obtain rfl : k = u.kids.length := by omega
   (try (conv => whnf)); (repeat ((first | refine qT ?_ | refine qF ?_ | refine qO ?_ | (with_reducible intro z hz); (first | (replace hz := hz (by omega); subst hz) | subst hz)); (try (conv => whnf))))
   exact hfin _ (ILes.refl _)
theorem bared_pc (w : List Wd) (hw : w.length ≤ 1000000) : PC Try.prog env0 29 [.sl 4 (w.map wdv)] [.sl 4 ((bareW w).map wdv)] := by
 have hml : (w.map wdv).length = w.length := List.length_map _
 refine PC.of_va (T := tbs) eqs_ok tbs_ok rfl mixed Try.func29 rfl rfl (Nat.le_of_ble_eq_true rfl) ?_; intro Γ C WK LP fin h0 hW hC hB hR hLP hfin
 (try (conv => whnf)); (repeat ((first | refine qT ?_ | refine qF ?_ | refine qO ?_ | (with_reducible intro z hz); (first | (replace hz := hz (by omega); subst hz) | subst hz)); (try (conv => whnf))))
 refine hLP _ _ _ Nat (fun k => ⟨[(0, .imm (.sl 4 (w.map wdv))), (3, .row 0 1), (4, .imm (.int .i64 (k : Nat)))], [.row 49 4 1 (((bareW (w.take k)).map wdv).map .imm)]⟩) (fun k => k ≤ w.length) (fun k => w.length - k) 0 (Nat.zero_le _) (((WeakA.row 0 (((bareW (w.take 0)).map wdv).map .imm) rfl (by simp [bareW]))).trans (qSL 1 rfl rfl)) ?_
 intro k hk
 have hho := Nat.lt_or_ge k w.length
 cases hho with
 | inl hlt =>
   obtain ⟨x, hx⟩ : ∃ x, w[k]? = some x := ⟨w[k], List.getElem?_eq_getElem hlt⟩
   have hrl : (((bareW (w.take k)).map wdv).map PV.imm).length = k := by simp [bareW]; omega
   have hrl2 : (bareW (w.take k)).length = k := by simp [bareW]; omega
   (try (conv => whnf)); (repeat ((first | refine qT ?_ | refine qF ?_ | refine qO ?_ | (with_reducible intro z hz); (first | (replace hz := hz (by omega); subst hz) | subst hz)); (try (conv => whnf))))
   refine Idx.mk k (wdv x) _ rfl (by simp [hx]) rfl ?_
   (try (conv => whnf)); (repeat ((first | refine qT ?_ | refine qF ?_ | refine qO ?_ | (with_reducible intro z hz); (first | (replace hz := hz (by omega); subst hz) | subst hz)); (try (conv => whnf))))
   exact ⟨k + 1, by omega, by dsimp only; omega, ((WeakA.row 0 (((bareW (w.take (k + 1))).map wdv).map .imm) rfl (by rw [take_at hx]; simp [bareW, Wd.bare, wdv, Trip.zero]))).trans ((WeakA.renew 0 1 rfl (by first | omega | (intro _; rw [hk0 _ _ rfl]; exact Nat.le_of_ble_eq_true rfl)) (by repeat (first | exact trivial | refine And.intro (rgL_imms _ _ _ _) ?_ | refine And.intro rfl ?_))).trans (qSL 1 rfl rfl))⟩
 | inr hge =>
   (try (conv => whnf)); (repeat ((first | refine qT ?_ | refine qF ?_ | refine qO ?_ | (with_reducible intro z hz); (first | (replace hz := hz (by omega); subst hz) | subst hz)); (try (conv => whnf))))
   obtain rfl : k = w.length := by omega
   refine Imms.mk ((bareW w).map wdv) (by rw [List.take_length]) ?_
   exact hfin _ (ILes.refl _)
theorem strips_map : ∀ l : List Ut, Ut.strips l = l.map Ut.strip
 | [] => by simp [Ut.strips]
 | u :: r => by simp [Ut.strips, strips_map r]
theorem strip_eq' (u : Ut) : u.strip = .mk .zero u.kind u.label (bareW u.head) (bareW u.words) (u.kids.map Ut.strip) := by
 cases u with
 | mk id kind label head words kids => rw [Ut.strip, strips_map]; rfl
abbrev zbox : Blk := .box 1 [.imm (.int .i64 0), .imm (.int .i64 0), .imm (.int .i64 0), .imm (.int .i64 0), .imm (.str ⟨#[]⟩), .imm .nil, .imm .nil, .imm .nil]
theorem strip_pc (N : Nat) : ∀ u : Ut, u.count ≤ N → Sml u → PC Try.prog env0 10 [uv u] [uv u.strip] := by
 induction N with
 | zero => intro u h; have := count_pos u; omega
 | succ N ih =>
 intro u hN hsb
 have hue := uv_eq u
 obtain ⟨b1, b2, b3⟩ := hsb.self
 have hW1 := bared_pc u.head (by omega)
 have hW2 := bared_pc u.words (by omega)
 have hkl : (u.kids.map uv).length = u.kids.length := List.length_map _
 rw [hue, strip_eq', uv_mk]
 refine PC.of_va (T := tbs) eqs_ok tbs_ok rfl mixed Try.func10 rfl rfl (Nat.le_of_ble_eq_true rfl) ?_; intro Γ C WK LP fin h0 hW hC hB hR hLP hfin
 (try (conv => whnf)); (repeat ((first | refine qT ?_ | refine qF ?_ | refine qO ?_ | (with_reducible intro z hz); (first | (replace hz := hz (by omega); subst hz) | subst hz) | (refine CallV.mk _ (hC _ _ _ (PCw.of hW1)) (fun js hjs => ?_); subst hjs) | (refine CallV.mk _ (hC _ _ _ (PCw.of hW2)) (fun js hjs => ?_); subst hjs)); (try (conv => whnf))))
 refine hLP _ _ _ Nat (fun k => ⟨[(1, .ptr 0 1 0), (2, .ptr 1 1 0), (3, .ptr 4 1 0), (4, .imm (.int .i64 (k : Nat)))], [.box 1 [.imm (.int .i64 u.id.x), .imm (.int .i64 u.id.y), .imm (.int .i64 u.id.z), .imm (.int .i64 u.kind), .imm (.str u.label), .imm (.sl 4 (u.head.map wdv)), .imm (.sl 4 (u.words.map wdv)), .imm (.sl 8 (u.kids.map uv))], zbox, .dead 0, .dead 0, .box 1 [.imm (.int .i64 0), .imm (.int .i64 0), .imm (.int .i64 0), .imm (.int .i64 u.kind), .imm (.str u.label), .imm (.sl 4 ((bareW u.head).map wdv)), .imm (.sl 4 ((bareW u.words).map wdv)), .row 5 1], .row 27 8 1 ((((u.kids.take k).map Ut.strip).map uv).map .imm)]⟩) (fun k => k ≤ u.kids.length) (fun k => u.kids.length - k) 0 (Nat.zero_le _) ((WeakA.nilBox 4 7 27 8 rfl rfl).trans (qSL 6 rfl rfl)) ?_
 intro k hk
 have hho := Nat.lt_or_ge k u.kids.length
 cases hho with
 | inl hlt =>
   refine (?_ : ∀ Q : Exit → AS → Prop, vcS _ _ _ _ _ _ _ (loopQA _ _ _ _ _ _ Q)) _; intro Q
   obtain ⟨x, hx⟩ : ∃ x, u.kids[k]? = some x := ⟨u.kids[k], List.getElem?_eq_getElem hlt⟩
   have h1 := kid_lt' hx
   have hrl : ((((u.kids.take k).map Ut.strip).map uv).map PV.imm).length = k := by simp; omega
   have hux := uv_eq x
   have hI := ih x (by omega) (hsb.kid (List.mem_of_getElem? hx))
   have hsx := uv_eq x.strip
   rw [hux, hsx] at hI
   (try (conv => whnf)); (repeat ((first | refine qT ?_ | refine qF ?_ | refine qO ?_ | (with_reducible intro z hz); (first | (replace hz := hz (by omega); subst hz) | subst hz)); (try (conv => whnf))))
   refine Idx.mk k (uv x) _ rfl (by simp [hx]) (by rw [hux]; try rfl) ?_
   (try (conv => whnf)); (repeat ((first | refine qT ?_ | refine qF ?_ | refine qO ?_ | (with_reducible intro z hz); (first | (replace hz := hz (by omega); subst hz) | subst hz) | (refine CallV.mk _ (hC _ _ _ (PCw.of hI)) (fun js hjs => ?_); subst hjs)); (try (conv => whnf))))
   exact ⟨k + 1, by omega, by dsimp only; omega, ((WeakA.row 5 ((((u.kids.take (k + 1)).map Ut.strip).map uv).map .imm) rfl (by rw [take_at hx]; simp [hsx]))).trans ((WeakA.renew 5 1 rfl (by first | omega | (intro _; rw [hk0 _ _ rfl]; exact Nat.le_of_ble_eq_true rfl)) (by repeat (first | exact trivial | refine And.intro (rgL_imms _ _ _ _) ?_ | refine And.intro rfl ?_))).trans (qSL 6 rfl rfl))⟩
 | inr hge =>
   obtain rfl : k = u.kids.length := by omega
   (try (conv => whnf)); (repeat ((first | refine qT ?_ | refine qF ?_ | refine qO ?_ | (with_reducible intro z hz); (first | (replace hz := hz (by omega); subst hz) | subst hz)); (try (conv => whnf))))
   refine Imms.mk (((u.kids.map Ut.strip)).map uv) (by rw [List.take_length]) ?_
   exact hfin _ (ILes.refl _)
end Go.Proofs.Ytckamfmllkpafaa.Pw
