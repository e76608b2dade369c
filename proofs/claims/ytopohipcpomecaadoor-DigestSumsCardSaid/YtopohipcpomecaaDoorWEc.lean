/-
  DigestTrees, DigestIgnoresIds, DigestDiffs: the laws' walks.
-/
import Derived.Test.YtopohipcpomecaaDoorWEb
namespace Go.Proofs.YtopohipcpomecaaDoor.Pd
open Go Go.Pv Go.RowKit Go.Proofs.YtopohipcpomecaaDoor.Pu Go.Proofs.YtopohipcpomecaaDoor.Pb
set_option linter.unusedSimpArgs false
open Lab Lcs Go.Proofs.YtopohipcpomecaaDoor
set_option maxRecDepth 10000
set_option maxHeartbeats 16000000
theorem heavyL_no : ∀ (l : List Ut) (n : Nat), heavyL l n = false → ∀ x ∈ l, bigU x = false ∧ txtN (x.head ++ x.words) ≤ 3000
 | [], _, _, x, hx => by cases hx
 | y :: r, n, h, x, hx => by
   rw [heavyL] at h
   split at h
   · cases h
   · rename_i h1
     split at h
     · cases h
     · rename_i h2
       rcases List.mem_cons.1 hx with e | e
       · subst e
         exact ⟨by simpa using h1, by omega⟩
       · exact heavyL_no r _ h x e
theorem wt_txt : ∀ l : List Wd, wtE l = txtN l + 100 * l.length
 | [] => rfl
 | w :: l => by rw [wtE, txtN, wt_txt l, List.length_cons]; omega
theorem txt_app : ∀ a b : List Wd, txtN (a ++ b) = txtN a + txtN b
 | [], b => by simp [txtN]
 | x :: a, b => by rw [List.cons_append, txtN, txtN, txt_app a b]; omega
theorem heavy_no {u : Ut} (hr : Rch u) (h : heavyB u = false) : FitD u ∧ u.count ≤ 40 ∧ SmW u := by
 unfold heavyB at h
 split at h
 · cases h
 · rename_i hz
   have hc := (sizeD_few u 40 30 (by decide) (by decide) (by omega)).1
   have hcnt : u.count ≤ 40 := by omega
   have hall := heavyL_no _ _ h
   have key : ∀ x ∈ u.all, x.head.length + x.words.length ≤ 60 ∧ x.label.size ≤ 60 ∧ txtN x.head + txtN x.words ≤ 3000 ∧ x.kids.length ≤ 40 := by
     intro x hx
     obtain ⟨h1, h2⟩ := hall x hx
     unfold bigU at h1
     rw [Bool.or_eq_false_iff, decide_eq_false_iff_not, decide_eq_false_iff_not] at h1
     have h3 := sub_count _ u x (Nat.le_refl _) hx
     have h4 := kids_counts x.kids
     have h5 := Ut.count_eq x
     rw [txt_app] at h2
     omega
   refine ⟨fun x hx => ?_, hcnt, fun x hx => ?_⟩
   · obtain ⟨k1, k2, k3, k4⟩ := key x hx
     have hx' := hr x hx
     exact ⟨hx'.id, hx'.kind, by omega, by rw [wt_txt]; omega, by rw [wt_txt]; omega, hx'.okh, hx'.okw, by omega, by omega, by omega⟩
   · obtain ⟨k1, k2, k3, k4⟩ := key x hx
     omega
theorem lawTrees (u : Ut) (hr : Rch u) : PC Tryd.prog envH 4 [uv u] [.bool true] := by
 have hH := heavy_pc u hr
 have hA := awake_pc
 have hue := uv_eq u
 cases hh : heavyB u with
 | true =>
   rw [hh] at hH
   rw [hue] at hH ⊢
   refine PC.of_va (T := tbz) eqs_ok tbz_ok rfl mixed Tryd.func4 rfl rfl (Nat.le_of_ble_eq_true rfl) ?_; intro Γ C WK LP fin h0 hW hC hB hR hLP hfin
   (try (conv => whnf)); (repeat ((first | refine qT ?_ | refine qF ?_ | refine qO ?_ | (with_reducible intro z hz); (first | (replace hz := hz (by omega); subst hz) | subst hz) | (refine CallV.mk _ (hC _ _ _ (PCw.of hH)) (fun js hjs => ?_); subst hjs) | (refine CallV.mk _ (hC _ _ _ (PCw.of hA)) (fun js hjs => ?_); subst hjs)); (try (conv => whnf))))
   exact hfin _ (ILes.refl _)
 | false =>
   obtain ⟨hf, hc, _⟩ := heavy_no hr hh
   rw [hh] at hH
   have h1 := content_pc _ u (Nat.le_refl _) hf
   have h2 := rsays_pc _ u (Nat.le_refl _) hf
   have h3 := full_pc _ u (Nat.le_refl _) hf
   have h4 := rwhole_pc _ u (Nat.le_refl _) hf
   have h5 := self_pc u hf.self
   have h6 := ralone_pc true u hf.self
   have h7 := rtext_pc (aloneE true u) (by have := alone_len (m := true) hf.self; omega)
   change PC _ _ _ _ [.str (hashS (aloneE true u))] at h7
   generalize treeE false u = c1 at *
   generalize treeE true u = c2 at *
   generalize hashS (aloneE true u) = c3 at *
   generalize aloneE true u = c4 at *
   rw [hue] at hH h1 h2 h3 h4 h5 h6 ⊢
   refine PC.of_va (T := tbz) eqs_ok tbz_ok rfl mixed Tryd.func4 rfl rfl (Nat.le_of_ble_eq_true rfl) ?_; intro Γ C WK LP fin h0 hW hC hB hR hLP hfin
   (try (conv => whnf)); (repeat ((first | refine qT ?_ | refine qF ?_ | refine qO ?_ | (with_reducible intro z hz); (first | (replace hz := hz (by omega); subst hz) | subst hz) | (refine CallV.mk _ (hC _ _ _ (PCw.of hH)) (fun js hjs => ?_); subst hjs) | (refine CallV.mk _ (hC _ _ _ (PCw.of h1)) (fun js hjs => ?_); subst hjs) | (refine CallV.mk _ (hC _ _ _ (PCw.of h2)) (fun js hjs => ?_); subst hjs) | (refine CallV.mk _ (hC _ _ _ (PCw.of h3)) (fun js hjs => ?_); subst hjs) | (refine CallV.mk _ (hC _ _ _ (PCw.of h4)) (fun js hjs => ?_); subst hjs) | (refine CallV.mk _ (hC _ _ _ (PCw.of h5)) (fun js hjs => ?_); subst hjs) | (refine CallV.mk _ (hC _ _ _ (PCw.of h6)) (fun js hjs => ?_); subst hjs) | (refine CallV.mk _ (hC _ _ _ (PCw.of h7)) (fun js hjs => ?_); subst hjs) | (refine CallV.mk _ (hC _ _ _ (PCw.of hA)) (fun js hjs => ?_); subst hjs)); (try (conv => whnf))))
   exact hfin _ (ILes.refl _)
theorem rowF_bare (l : List Wd) : rowF false (bareW l) = rowF false l := by
 have h1 : ((bareW l).map wdv).length = (l.map wdv).length := by simp [bareW]
 unfold rowF
 rw [h1]
 unfold rowE
 generalize numS _ = s
 induction l generalizing s with
 | nil => rfl
 | cons w l ih =>
   show (bareW l).foldl (stepW false) (stepW false s w.bare) = l.foldl (stepW false) (stepW false s w)
   exact ih (by simp [bareW]) _
theorem alone_strip (u : Ut) : aloneE false u.strip = aloneE false u := by
 rw [strip_eq']
 unfold aloneE idE
 rw [cond_false, cond_false]
 show (⟨#[]⟩ : Str) ++ numS u.kind ++ ⟨#[32]⟩ ++ encS u.label ++ ⟨#[10]⟩ ++ rowF false (bareW u.head) ++ ⟨#[10]⟩ ++ rowF false (bareW u.words) ++ ⟨#[10]⟩ = _
 rw [rowF_bare, rowF_bare]
theorem tree_strip (N : Nat) : ∀ u : Ut, u.count ≤ N → treeE false u.strip = treeE false u := by
 induction N with
 | zero => intro u h; have := count_pos u; omega
 | succ N ih =>
   intro u hN
   rw [tree_eqH, tree_eqH, alone_strip, show u.strip.kids = u.kids.map Ut.strip by rw [strip_eq']; rfl]
   congr 1
   have : ∀ (l : List Ut) (s : Str), (∀ x ∈ l, treeE false x.strip = treeE false x) → kidsE false s (l.map Ut.strip) = kidsE false s l := by
     intro l
     induction l with
     | nil => intro s _; rfl
     | cons x l ihl =>
       intro s hx
       rw [List.map_cons, kidsE, kidsE, hx x List.mem_cons_self]
       exact ihl _ fun y hy => hx y (List.mem_cons_of_mem _ hy)
   refine this _ _ fun x hx => ih x ?_
   obtain ⟨k, hk, rfl⟩ := List.getElem_of_mem hx
   have h1 := kid_lt' (List.getElem?_eq_getElem hk)
   omega
theorem bareW_len (l : List Wd) : (bareW l).length = l.length := by simp [bareW]
theorem wt_bare (l : List Wd) : wtE (bareW l) = wtE l := by
 induction l with
 | nil => rfl
 | cons w l ih => show w.text.size + 100 + wtE (bareW l) = _; rw [ih]; rfl
theorem ok_bare (l : List Wd) : OkW (bareW l) := fun w hw => by
 obtain ⟨x, _, rfl⟩ := List.mem_map.1 hw
 have h : inN 0 := by unfold inN; decide
 exact ⟨h, h, h⟩
theorem okd_strip {u : Ut} (h : OkD u) : OkD u.strip := by
 rw [strip_eq']
 exact ⟨by unfold inN Trip.zero; dsimp only [Ut.id]; decide, h.kind, h.label, by rw [show (Ut.mk Trip.zero u.kind u.label (bareW u.head) (bareW u.words) (u.kids.map Ut.strip)).head = bareW u.head from rfl, wt_bare]; exact h.head, by rw [show (Ut.mk Trip.zero u.kind u.label (bareW u.head) (bareW u.words) (u.kids.map Ut.strip)).words = bareW u.words from rfl, wt_bare]; exact h.words, ok_bare _, ok_bare _, by rw [show (Ut.mk Trip.zero u.kind u.label (bareW u.head) (bareW u.words) (u.kids.map Ut.strip)).head = bareW u.head from rfl, bareW_len]; exact h.hl, by rw [show (Ut.mk Trip.zero u.kind u.label (bareW u.head) (bareW u.words) (u.kids.map Ut.strip)).words = bareW u.words from rfl, bareW_len]; exact h.wl, by rw [show (Ut.mk Trip.zero u.kind u.label (bareW u.head) (bareW u.words) (u.kids.map Ut.strip)).kids = u.kids.map Ut.strip from rfl, List.length_map]; exact h.kids⟩
theorem fit_strip (N : Nat) : ∀ u : Ut, u.count ≤ N → FitD u → FitD u.strip := by
 induction N with
 | zero => intro u h; have := count_pos u; omega
 | succ N ih =>
   intro u hN hf x hx
   rw [Ut.all_eq] at hx
   rcases List.mem_cons.1 hx with e | e
   · rw [e]; exact okd_strip hf.self
   · obtain ⟨y, hy, hxy⟩ := mem_alls.1 e
     rw [show u.strip.kids = u.kids.map Ut.strip by rw [strip_eq']; rfl] at hy
     obtain ⟨k, hk, rfl⟩ := List.mem_map.1 hy
     refine ih k ?_ (hf.kid hk) x hxy
     obtain ⟨i, hi, rfl⟩ := List.getElem_of_mem hk
     have h1 := kid_lt' (List.getElem?_eq_getElem hi)
     omega
def alU (u : Ut) : Ut := .mk u.id u.kind u.label u.head u.words []
theorem okd_al {u : Ut} (h : OkD u) : OkD (alU u) := ⟨h.id, h.kind, h.label, h.head, h.words, h.okh, h.okw, h.hl, h.wl, Nat.zero_le _⟩
theorem al_all (u : Ut) : (alU u).all = [alU u] := by rw [Ut.all_eq]; rfl
theorem fit_al {u : Ut} (h : FitD u) : FitD (alU u) := fun x hx => by
 rw [al_all, List.mem_singleton] at hx
 rw [hx]; exact okd_al h.self
theorem al_le (u : Ut) : ILe (.agg [.int .i64 u.id.x, .int .i64 u.id.y, .int .i64 u.id.z, .int .i64 u.kind, .str u.label, .sl 4 (u.head.map wdv), .sl 4 (u.words.map wdv), .nil]) (uv (alU u)) := by
 unfold alU
 rw [uv_mk]
 exact ILes.agg (.cons (.refl _) (.cons (.refl _) (.cons (.refl _) (.cons (.refl _) (.cons (.refl _) (.cons (.refl _) (.cons (.refl _) (.cons (.nil 8) (.refl [])))))))))
theorem alone_al (m : Bool) (u : Ut) : aloneE m (alU u) = aloneE m u := rfl
theorem tree_al (m : Bool) (u : Ut) : treeE m (alU u) = hashS (aloneE m u) := by rw [tree_eqH, alone_al]; rfl
theorem lawIgnores (u : Ut) (hr : Rch u) : PC Tryd.prog envH 5 [uv u] [.bool true] := by
 have hH := heavy_pc u hr
 have hA := awake_pc
 have hue := uv_eq u
 cases hh : heavyB u with
 | true =>
   rw [hh] at hH
   rw [hue] at hH ⊢
   refine PC.of_va (T := tbz) eqs_ok tbz_ok rfl mixed Tryd.func5 rfl rfl (Nat.le_of_ble_eq_true rfl) ?_; intro Γ C WK LP fin h0 hW hC hB hR hLP hfin
   (try (conv => whnf)); (repeat ((first | refine qT ?_ | refine qF ?_ | refine qO ?_ | (with_reducible intro z hz); (first | (replace hz := hz (by omega); subst hz) | subst hz) | (refine CallV.mk _ (hC _ _ _ (PCw.of hH)) (fun js hjs => ?_); subst hjs) | (refine CallV.mk _ (hC _ _ _ (PCw.of hA)) (fun js hjs => ?_); subst hjs)); (try (conv => whnf))))
   exact hfin _ (ILes.refl _)
 | false =>
   obtain ⟨hf, hc, hsm⟩ := heavy_no hr hh
   rw [hh] at hH
   have h1 := content_pc _ u (Nat.le_refl _) hf
   have h2 := bare_pc _ u (Nat.le_refl _) hsm
   have h3 := content_pc _ u.strip (Nat.le_refl _) (fit_strip _ u (Nat.le_refl _) hf)
   rw [tree_strip _ u (Nat.le_refl _)] at h3
   have h4 := self_pc u hf.self
   have h5 := PC.arg (self_pc (alU u) (okd_al hf.self)) (.cons (al_le u) (.refl []))
   have h6 := PC.arg (full_pc _ (alU u) (Nat.le_refl _) (fit_al hf)) (.cons (al_le u) (.refl []))
   rw [tree_al] at h6
   rw [alone_al] at h5
   have hse := uv_eq u.strip
   generalize treeE false u = c1 at *
   generalize hashS (aloneE true u) = c3 at *
   rw [hue] at hH h1 h2 h4 ⊢
   refine PC.of_va (T := tbz) eqs_ok tbz_ok rfl mixed Tryd.func5 rfl rfl (Nat.le_of_ble_eq_true rfl) ?_; intro Γ C WK LP fin h0 hW hC hB hR hLP hfin
   (try (conv => whnf)); (repeat ((first | refine qT ?_ | refine qF ?_ | refine qO ?_ | (with_reducible intro z hz); (first | (replace hz := hz (by omega); subst hz) | subst hz) | (refine CallV.mk _ (hC _ _ _ (PCw.of hH)) (fun js hjs => ?_); subst hjs) | (refine CallV.mk _ (hC _ _ _ (PCw.of h1)) (fun js hjs => ?_); subst hjs) | (refine CallV.mk _ (hC _ _ _ (PCw.of h2)) (fun js hjs => ?_); subst hjs) | (refine CallV.mk _ (hC _ _ _ (PCw.of h3)) (fun js hjs => ?_); subst hjs) | (refine CallV.mk _ (hC _ _ _ (PCw.of h4)) (fun js hjs => ?_); subst hjs) | (refine CallV.mk _ (hC _ _ _ (PCw.of h5)) (fun js hjs => ?_); subst hjs) | (refine CallV.mk _ (hC _ _ _ (PCw.of h6)) (fun js hjs => ?_); subst hjs) | (refine CallV.mk _ (hC _ _ _ (PCw.of h4)) (fun js hjs => ?_); subst hjs) | (refine CallV.mk _ (hC _ _ _ (PCw.of hA)) (fun js hjs => ?_); subst hjs)); (try (conv => whnf))))
   exact hfin _ (ILes.refl _)
theorem same_comm (X Y : List Ut) (t : Trip) : sameP X Y t = sameP Y X t := by
 unfold sameP
 cases firstU t X with
 | none => cases firstU t Y <;> rfl
 | some p =>
   cases firstU t Y with
   | none => rfl
   | some q => exact decide_eq_decide.2 ⟨Eq.symm, Eq.symm⟩
theorem apart_comm (X Y : List Ut) : apartK X Y (X ++ Y) = apartK Y X (Y ++ X) := by
 obtain ⟨h1, h2, _⟩ := apart_inv X Y (X ++ Y) [] (by unfold Asc; simp)
 obtain ⟨h3, h4, _⟩ := apart_inv Y X (Y ++ X) [] (by unfold Asc; simp)
 refine asc_ext h1 h3 fun t => ?_
 show t ∈ (X ++ Y).foldl (stepA X Y) [] ↔ t ∈ (Y ++ X).foldl (stepA Y X) []
 rw [h2, h4]
 constructor
 · rintro (h | ⟨x, hx, e1, e2⟩)
   · cases h
   · exact Or.inr ⟨x, List.mem_append.2 (List.mem_append.1 hx).symm, e1, by rw [same_comm]; exact e2⟩
 · rintro (h | ⟨x, hx, e1, e2⟩)
   · cases h
   · exact Or.inr ⟨x, List.mem_append.2 (List.mem_append.1 hx).symm, e1, by rw [same_comm]; exact e2⟩
theorem lawDiffs (a b : Ut) (ha : Rch a) (hb : Rch b) : PC Tryd.prog envH 6 [uv a, uv b] [.bool true] := by
 have hHa := heavy_pc a ha
 have hHb := heavy_pc b hb
 have hA := awake_pc
 have hae := uv_eq a
 have hbe := uv_eq b
 cases h1 : heavyB a with
 | true =>
   rw [h1] at hHa
   rw [hae] at hHa ⊢
   rw [hbe]
   refine PC.of_va (T := tbz) eqs_ok tbz_ok rfl mixed Tryd.func6 rfl rfl (Nat.le_of_ble_eq_true rfl) ?_; intro Γ C WK LP fin h0 hW hC hB hR hLP hfin
   (try (conv => whnf)); (repeat ((first | refine qT ?_ | refine qF ?_ | refine qO ?_ | (with_reducible intro z hz); (first | (replace hz := hz (by omega); subst hz) | subst hz) | (refine CallV.mk _ (hC _ _ _ (PCw.of hHa)) (fun js hjs => ?_); subst hjs) | (refine CallV.mk _ (hC _ _ _ (PCw.of hA)) (fun js hjs => ?_); subst hjs)); (try (conv => whnf))))
   exact hfin _ (ILes.refl _)
 | false =>
   cases h2 : heavyB b with
   | true =>
     rw [h1] at hHa
     rw [h2] at hHb
     rw [hae] at hHa ⊢
     rw [hbe] at hHb ⊢
     refine PC.of_va (T := tbz) eqs_ok tbz_ok rfl mixed Tryd.func6 rfl rfl (Nat.le_of_ble_eq_true rfl) ?_; intro Γ C WK LP fin h0 hW hC hB hR hLP hfin
     (try (conv => whnf)); (repeat ((first | refine qT ?_ | refine qF ?_ | refine qO ?_ | (with_reducible intro z hz); (first | (replace hz := hz (by omega); subst hz) | subst hz) | (refine CallV.mk _ (hC _ _ _ (PCw.of hHa)) (fun js hjs => ?_); subst hjs) | (refine CallV.mk _ (hC _ _ _ (PCw.of hHb)) (fun js hjs => ?_); subst hjs) | (refine CallV.mk _ (hC _ _ _ (PCw.of hA)) (fun js hjs => ?_); subst hjs)); (try (conv => whnf))))
     exact hfin _ (ILes.refl _)
   | false =>
     obtain ⟨hfa, hca, _⟩ := heavy_no ha h1
     obtain ⟨hfb, hcb, _⟩ := heavy_no hb h2
     rw [h1] at hHa
     rw [h2] at hHb
     have hal := all_length a
     have hbl := all_length b
     have hD := diff_pc a b (by omega) (by omega) hfa hfb
     have hD2 := diff_pc b a (by omega) (by omega) hfb hfa
     rw [apart_comm b.all a.all] at hD2
     have hsub : ∀ {u : Ut}, FitD u → ∀ p ∈ u.all, FitD p := fun {u} hf p hp x hx => hf x (all_trans _ u p (Nat.le_refl _) hp x hx)
     have hAp := rapart_pc a b (by omega) (by omega) (hsub hfa) (hsub hfb) (fun k => by
       have h3 := apart_len a.all b.all ((a.all ++ b.all).take k)
       have h4 : ((a.all ++ b.all).take k).length ≤ (a.all ++ b.all).length := by rw [List.length_take]; omega
       rw [List.length_append] at h4
       omega)
     have hl := apart_len a.all b.all (a.all ++ b.all)
     rw [List.length_append] at hl
     generalize apartK a.all b.all (a.all ++ b.all) = L at *
     have hI := ids_pc L L (by omega) (by omega)
     rw [decide_eq_true rfl] at hI
     rw [hae] at hHa hD hD2 hAp ⊢
     rw [hbe] at hHb hD hD2 hAp ⊢
     refine PC.of_va (T := tbz) eqs_ok tbz_ok rfl mixed Tryd.func6 rfl rfl (Nat.le_of_ble_eq_true rfl) ?_; intro Γ C WK LP fin h0 hW hC hB hR hLP hfin
     (try (conv => whnf)); (repeat ((first | refine qT ?_ | refine qF ?_ | refine qO ?_ | (with_reducible intro z hz); (first | (replace hz := hz (by omega); subst hz) | subst hz) | (refine CallV.mk _ (hC _ _ _ (PCw.of hHa)) (fun js hjs => ?_); subst hjs) | (refine CallV.mk _ (hC _ _ _ (PCw.of hHb)) (fun js hjs => ?_); subst hjs) | (refine CallV.mk _ (hC _ _ _ (PCw.of hD)) (fun js hjs => ?_); subst hjs) | (refine CallV.mk _ (hC _ _ _ (PCw.of hAp)) (fun js hjs => ?_); subst hjs) | (refine CallV.mk _ (hC _ _ _ (PCw.of hI)) (fun js hjs => ?_); subst hjs) | (refine CallV.mk _ (hC _ _ _ (PCw.of hD)) (fun js hjs => ?_); subst hjs) | (refine CallV.mk _ (hC _ _ _ (PCw.of hD2)) (fun js hjs => ?_); subst hjs) | (refine CallV.mk _ (hC _ _ _ (PCw.of hI)) (fun js hjs => ?_); subst hjs) | (refine CallV.mk _ (hC _ _ _ (PCw.of hA)) (fun js hjs => ?_); subst hjs)); (try (conv => whnf))))
     exact hfin _ (ILes.refl _)
end Go.Proofs.YtopohipcpomecaaDoor.Pd
