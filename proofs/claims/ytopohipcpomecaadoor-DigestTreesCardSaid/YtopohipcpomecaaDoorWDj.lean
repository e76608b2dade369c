/-
  Hashes of trees, by the reference.
-/
import Derived.Test.YtopohipcpomecaaDoorWDi
namespace Go.Proofs.YtopohipcpomecaaDoor.Pd
open Go Go.Pv Go.RowKit Go.Proofs.YtopohipcpomecaaDoor.Pu Go.Proofs.YtopohipcpomecaaDoor.Pb
set_option linter.unusedSimpArgs false
open Lab Lcs Go.Proofs.YtopohipcpomecaaDoor
set_option maxRecDepth 10000
set_option maxHeartbeats 16000000
def hashS (s : Str) : Str := ⟨(lowL 16 (stateH s.data.toList)).toArray⟩
mutual
def treeE (m : Bool) : Ut → Str
 | .mk id kind label head words kids => hashS (kidsE m (aloneE m (.mk id kind label head words kids)) kids)
def kidsE (m : Bool) : Str → List Ut → Str
 | s, [] => s
 | s, k :: r => kidsE m (s ++ treeE m k) r
end
theorem tree_eq (m : Bool) (u : Ut) : treeE m u = ⟨(lowL 16 (stateH (kidsE m (aloneE m u) u.kids).data.toList)).toArray⟩ := by
 cases u
 rw [treeE]
 rfl
theorem tree_len (m : Bool) (u : Ut) : (treeE m u).size = 16 := by rw [tree_eq, size_str, lowL_len]
theorem kids_app (m : Bool) : ∀ (s : Str) (l : List Ut) (x : Ut), kidsE m s (l ++ [x]) = kidsE m s l ++ treeE m x
 | s, [], x => by simp only [List.nil_append, kidsE]
 | s, k :: r, x => by simp only [List.cons_append, kidsE]; exact kids_app m _ r x
theorem kids_take (m : Bool) (s : Str) {l : List Ut} {k : Nat} {x : Ut} (h : l[k]? = some x) : kidsE m s (l.take (k + 1)) = kidsE m s (l.take k) ++ treeE m x := by
 rw [take_at h, kids_app]
theorem kids_len (m : Bool) : ∀ (s : Str) (l : List Ut), (kidsE m s l).size = s.size + 16 * l.length
 | s, [] => by simp [kidsE]
 | s, k :: r => by
   rw [kidsE, kids_len m _ r, ByteArray.size_append, tree_len, List.length_cons]
   omega
def FitD (u : Ut) : Prop := ∀ x ∈ u.all, OkD x
theorem FitD.self {u : Ut} (h : FitD u) : OkD u := h u (by rw [Ut.all_eq]; exact List.mem_cons_self)
theorem FitD.kid {u k : Ut} (h : FitD u) (hk : k ∈ u.kids) : FitD k := fun x hx => h x (by rw [Ut.all_eq]; exact List.mem_cons_of_mem _ (mem_alls.2 ⟨k, hk, hx⟩))
theorem rsays_pc (N : Nat) : ∀ u : Ut, u.count ≤ N → FitD u → PC Tryd.prog envH 13 [uv u] [.str (treeE false u)] := by
 induction N with
 | zero => intro u h; have := count_pos u; omega
 | succ N ih =>
 intro u hN hf
 have hue := uv_eq u
 have hs := hf.self
 have hkl : (u.kids.map uv).length = u.kids.length := List.length_map _
 have hA := ralone_pc false u hs
 have hal := alone_len (m := false) hs
 have hkk := hs.kids
 have hks := kids_len false (aloneE false u)
 have hX := rtext_pc (kidsE false (aloneE false u) u.kids) (by have := hks u.kids; omega)
 rw [hue, tree_eq]
 rw [hue] at hA
 refine PC.of_va (T := tbw) eqs_ok tbw_ok rfl mixed Tryd.func13 rfl rfl (Nat.le_of_ble_eq_true rfl) ?_; intro Γ C WK LP fin h0 hW hC hB hR hLP hfin
 (try (conv => whnf)); (repeat ((first | refine qT ?_ | refine qF ?_ | refine qO ?_ | (with_reducible intro z hz); (first | (replace hz := hz (by omega); subst hz) | subst hz) | (refine CallV.mk _ (hC _ _ _ (PCw.of hA)) (fun js hjs => ?_); subst hjs)); (try (conv => whnf))))
 refine hLP _ _ _ Nat (fun k => ⟨[(1, .ptr 0 1 0), (3, .imm (.str (kidsE false (aloneE false u) (u.kids.take k)))), (4, .imm (.int .i64 (k : Nat)))], [.box 1 [.imm (.int .i64 u.id.x), .imm (.int .i64 u.id.y), .imm (.int .i64 u.id.z), .imm (.int .i64 u.kind), .imm (.str u.label), .imm (.sl 4 (u.head.map wdv)), .imm (.sl 4 (u.words.map wdv)), .imm (.sl 8 (u.kids.map uv))]]⟩) (fun k => k ≤ u.kids.length) (fun k => u.kids.length - k) 0 (Nat.zero_le _) (qSL 1 rfl rfl) ?_
 intro k hk
 have hho := Nat.lt_or_ge k u.kids.length
 cases hho with
 | inl hlt =>
   refine (?_ : ∀ Q : Exit → AS → Prop, vcS _ _ _ _ _ _ _ (loopQA _ _ _ _ _ _ Q)) _; intro Q
   obtain ⟨x, hx⟩ : ∃ x, u.kids[k]? = some x := ⟨u.kids[k], List.getElem?_eq_getElem hlt⟩
   have h1 := kid_lt' hx
   have hux := uv_eq x
   have hI := ih x (by omega) (hf.kid (List.mem_of_getElem? hx))
   have hkt := kids_take false (aloneE false u) hx
   have hz := hks (u.kids.take k)
   rw [List.length_take] at hz
   have hzt := tree_len false x
   rw [hux] at hI
   (try (conv => whnf)); (repeat ((first | refine qT ?_ | refine qF ?_ | refine qO ?_ | (with_reducible intro z hz); (first | (replace hz := hz (by omega); subst hz) | subst hz)); (try (conv => whnf))))
   refine Idx.mk k (uv x) _ rfl (by simp [hx]) (by rw [hux]; try rfl) ?_
   (try (conv => whnf)); (repeat ((first | refine qT ?_ | refine qF ?_ | refine qO ?_ | (with_reducible intro z hz); (first | (replace hz := hz (by omega); subst hz) | subst hz) | (refine CallV.mk _ (hC _ _ _ (PCw.of hI)) (fun js hjs => ?_); subst hjs)); (try (conv => whnf))))
   refine ⟨k + 1, by omega, by dsimp only; omega, ?_⟩
   dsimp only []
   rw [hkt]
   exact (qSL 1 rfl rfl)
 | inr hge =>
   obtain rfl : k = u.kids.length := by omega
   rw [List.take_length]
   (try (conv => whnf)); (repeat ((first | refine qT ?_ | refine qF ?_ | refine qO ?_ | (with_reducible intro z hz); (first | (replace hz := hz (by omega); subst hz) | subst hz) | (refine CallV.mk _ (hC _ _ _ (PCw.of hX)) (fun js hjs => ?_); subst hjs)); (try (conv => whnf))))
   exact hfin _ (ILes.refl _)
theorem rwhole_pc (N : Nat) : ∀ u : Ut, u.count ≤ N → FitD u → PC Tryd.prog envH 15 [uv u] [.str (treeE true u)] := by
 induction N with
 | zero => intro u h; have := count_pos u; omega
 | succ N ih =>
 intro u hN hf
 have hue := uv_eq u
 have hs := hf.self
 have hkl : (u.kids.map uv).length = u.kids.length := List.length_map _
 have hA := ralone_pc true u hs
 have hal := alone_len (m := true) hs
 have hkk := hs.kids
 have hks := kids_len true (aloneE true u)
 have hX := rtext_pc (kidsE true (aloneE true u) u.kids) (by have := hks u.kids; omega)
 rw [hue, tree_eq]
 rw [hue] at hA
 refine PC.of_va (T := tbw) eqs_ok tbw_ok rfl mixed Tryd.func15 rfl rfl (Nat.le_of_ble_eq_true rfl) ?_; intro Γ C WK LP fin h0 hW hC hB hR hLP hfin
 (try (conv => whnf)); (repeat ((first | refine qT ?_ | refine qF ?_ | refine qO ?_ | (with_reducible intro z hz); (first | (replace hz := hz (by omega); subst hz) | subst hz) | (refine CallV.mk _ (hC _ _ _ (PCw.of hA)) (fun js hjs => ?_); subst hjs)); (try (conv => whnf))))
 refine hLP _ _ _ Nat (fun k => ⟨[(1, .ptr 0 1 0), (3, .imm (.str (kidsE true (aloneE true u) (u.kids.take k)))), (4, .imm (.int .i64 (k : Nat)))], [.box 1 [.imm (.int .i64 u.id.x), .imm (.int .i64 u.id.y), .imm (.int .i64 u.id.z), .imm (.int .i64 u.kind), .imm (.str u.label), .imm (.sl 4 (u.head.map wdv)), .imm (.sl 4 (u.words.map wdv)), .imm (.sl 8 (u.kids.map uv))]]⟩) (fun k => k ≤ u.kids.length) (fun k => u.kids.length - k) 0 (Nat.zero_le _) (qSL 1 rfl rfl) ?_
 intro k hk
 have hho := Nat.lt_or_ge k u.kids.length
 cases hho with
 | inl hlt =>
   refine (?_ : ∀ Q : Exit → AS → Prop, vcS _ _ _ _ _ _ _ (loopQA _ _ _ _ _ _ Q)) _; intro Q
   obtain ⟨x, hx⟩ : ∃ x, u.kids[k]? = some x := ⟨u.kids[k], List.getElem?_eq_getElem hlt⟩
   have h1 := kid_lt' hx
   have hux := uv_eq x
   have hI := ih x (by omega) (hf.kid (List.mem_of_getElem? hx))
   have hkt := kids_take true (aloneE true u) hx
   have hz := hks (u.kids.take k)
   rw [List.length_take] at hz
   have hzt := tree_len true x
   rw [hux] at hI
   (try (conv => whnf)); (repeat ((first | refine qT ?_ | refine qF ?_ | refine qO ?_ | (with_reducible intro z hz); (first | (replace hz := hz (by omega); subst hz) | subst hz)); (try (conv => whnf))))
   refine Idx.mk k (uv x) _ rfl (by simp [hx]) (by rw [hux]; try rfl) ?_
   (try (conv => whnf)); (repeat ((first | refine qT ?_ | refine qF ?_ | refine qO ?_ | (with_reducible intro z hz); (first | (replace hz := hz (by omega); subst hz) | subst hz) | (refine CallV.mk _ (hC _ _ _ (PCw.of hI)) (fun js hjs => ?_); subst hjs)); (try (conv => whnf))))
   refine ⟨k + 1, by omega, by dsimp only; omega, ?_⟩
   dsimp only []
   rw [hkt]
   exact (qSL 1 rfl rfl)
 | inr hge =>
   obtain rfl : k = u.kids.length := by omega
   rw [List.take_length]
   (try (conv => whnf)); (repeat ((first | refine qT ?_ | refine qF ?_ | refine qO ?_ | (with_reducible intro z hz); (first | (replace hz := hz (by omega); subst hz) | subst hz) | (refine CallV.mk _ (hC _ _ _ (PCw.of hX)) (fun js hjs => ?_); subst hjs)); (try (conv => whnf))))
   exact hfin _ (ILes.refl _)
end Go.Proofs.YtopohipcpomecaaDoor.Pd
