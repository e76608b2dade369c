/-
  The example of the law: awake; DigestSums.
-/
import Derived.Test.YtopohipcpomecaaDoorWDz
import Derived.Test.YtopohipcpomecaaDoorWDl
namespace Go.Proofs.YtopohipcpomecaaDoor.Pd
open Go Go.Pv Go.RowKit Go.Proofs.YtopohipcpomecaaDoor.Pu Go.Proofs.YtopohipcpomecaaDoor.Pb
set_option linter.unusedSimpArgs false
open Lab Lcs Go.Proofs.YtopohipcpomecaaDoor
set_option maxRecDepth 10000
set_option maxHeartbeats 16000000
theorem PC.arg {P : Program} {X : Env} {f : FuncId} {args args' res : List IV} (h : PC P X f args' res) (hl : ILes args args') : PC P X f args res :=
 ⟨h.1, fun Q w vs hQ hg hX hvs => h.2 Q w vs hQ hg hX (hl.rep hvs)⟩
theorem apart_self (X : List Ut) : apartK X X (X ++ X) = [] := by
 obtain ⟨_, h2, _⟩ := apart_inv X X (X ++ X) [] (by unfold Asc; simp)
 refine List.eq_nil_iff_forall_not_mem.2 fun t ht => ?_
 obtain h | ⟨x, hx, h3, h4⟩ := (h2 t).1 ht
 · cases h
 · have hx' : x ∈ X := by rcases List.mem_append.1 hx with h | h <;> exact h
   have := (first_some t X).1 ⟨x, hx', h3⟩
   unfold sameP at h4
   cases hf : firstU t X with
   | none => exact this hf
   | some p => rw [hf] at h4; simp at h4
def kE : Ut := .mk ⟨1, 0, 1⟩ 1 ⟨#[49]⟩ [] [] []
def uE : Ut := .mk ⟨0, 0, 0⟩ 0 ⟨#[]⟩ [] [] [kE]
theorem zero_all : zeroU.all = [zeroU] := rfl
theorem uE_all : uE.all = [uE, kE] := rfl
theorem okd_zero : OkD zeroU := ⟨by unfold inN zeroU; decide, by unfold inN zeroU; decide, by decide, by decide, by decide, (fun w hw => by cases hw), (fun w hw => by cases hw), by decide, by decide, by decide⟩
theorem okd_k : OkD kE := ⟨by unfold inN kE; decide, by unfold inN kE; decide, by decide, by decide, by decide, (fun w hw => by cases hw), (fun w hw => by cases hw), by decide, by decide, by decide⟩
theorem okd_u : OkD uE := ⟨by unfold inN uE; decide, by unfold inN uE; decide, by decide, by decide, by decide, (fun w hw => by cases hw), (fun w hw => by cases hw), by decide, by decide, by decide⟩
theorem fit_zero : FitD zeroU := fun x hx => by rw [zero_all] at hx; simp at hx; subst hx; exact okd_zero
theorem fit_u : FitD uE := fun x hx => by rw [uE_all] at hx; simp at hx; rcases hx with rfl | rfl; exact okd_u; exact okd_k
theorem uE_le : ILe (.agg [.int .i64 0, .int .i64 0, .int .i64 0, .int .i64 0, .str ⟨#[]⟩, .nil, .nil, .sl 8 [.agg [.int .i64 1, .int .i64 0, .int .i64 1, .int .i64 1, .str ⟨#[49]⟩, .nil, .nil, .nil]]]) (uv uE) := by
 unfold uE
 rw [uv_mk]
 refine ILes.agg (.cons (.refl _) (.cons (.refl _) (.cons (.refl _) (.cons (.refl _) (.cons (.refl _) (.cons (.nil 4) (.cons (.nil 4) (.cons ?_ (.refl [])))))))))
 refine ILes.sl (.cons ?_ (.refl []))
 unfold kE
 rw [uv_mk]
 exact ILes.agg (.cons (.refl _) (.cons (.refl _) (.cons (.refl _) (.cons (.refl _) (.cons (.refl _) (.cons (.nil 4) (.cons (.nil 4) (.cons (.nil 8) (.refl [])))))))))
theorem self_zero : aloneE true zeroU = ⟨#[48, 46, 48, 46, 48, 32, 48, 32, 48, 58, 10, 48, 10, 48, 10]⟩ := by decide +kernel
theorem cont_zero : aloneE false zeroU = ⟨#[48, 32, 48, 58, 10, 48, 10, 48, 10]⟩ := by decide +kernel
theorem tree_zero : treeE false zeroU = hashS (aloneE false zeroU) := tree_eqH false zeroU
theorem two_apart : (apartK uE.all zeroU.all (uE.all ++ zeroU.all)).length = 2 := by decide +kernel
theorem hash_len (s : Str) : (hashS s).size = 16 := by unfold hashS; rw [size_str, lowL_len]
theorem awake_pc : PC Tryd.prog envH 8 [] [.bool true] := by
 have h1 := PC.arg (self_pc zeroU okd_zero) (.cons zero_le (.refl []))
 have h2 := sum_pc' ⟨#[48, 46, 48, 46, 48, 32, 48, 32, 48, 58, 10, 48, 10, 48, 10]⟩ (by decide)
 have h3 := PC.arg (content_pc _ zeroU (Nat.le_refl _) fit_zero) (.cons zero_le (.refl []))
 have h4 := sum_pc' ⟨#[48, 32, 48, 58, 10, 48, 10, 48, 10]⟩ (by decide)
 have h5 := PC.arg (diff_pc uE uE (by decide) (by decide) fit_u fit_u) (.cons uE_le (.cons uE_le (.refl [])))
 have h6 := sum_pc' ⟨#[]⟩ (by decide)
 have h7 := PC.arg (diff_pc uE zeroU (by decide) (by decide) fit_u fit_zero) (.cons uE_le (.cons zero_le (.refl [])))
 rw [self_zero] at h1
 rw [tree_zero, cont_zero] at h3
 rw [apart_self] at h5
 have h8 := hash_len ⟨#[]⟩
 have h9 : ((apartK uE.all zeroU.all (uE.all ++ zeroU.all)).map idv).length = 2 := by rw [List.length_map]; exact two_apart
 generalize apartK uE.all zeroU.all (uE.all ++ zeroU.all) = L at *
 generalize hashS ⟨#[]⟩ = e at *
 generalize hashS ⟨#[48, 46, 48, 46, 48, 32, 48, 32, 48, 58, 10, 48, 10, 48, 10]⟩ = f at *
 generalize hashS ⟨#[48, 32, 48, 58, 10, 48, 10, 48, 10]⟩ = g at *
 refine PC.of_va (T := (tbzf fun r => match r with | 2 => [0] | _ => [])) eqs_ok tbz_ok rfl mixed Tryd.func8 rfl rfl (Nat.le_of_ble_eq_true rfl) ?_; intro Γ C WK LP fin h0 hW hC hB hR hLP hfin
 (try (conv => whnf)); (repeat ((first | refine qT ?_ | refine qF ?_ | refine qO ?_ | (with_reducible intro z hz); (first | (replace hz := hz (by omega); subst hz) | subst hz)); (try (conv => whnf))))
 refine Imms.mk [.agg [.int .i64 1, .int .i64 0, .int .i64 1, .int .i64 1, .str ⟨#[49]⟩, .nil, .nil, .nil]] rfl ?_
 (try (conv => whnf)); (repeat ((first | refine qT ?_ | refine qF ?_ | refine qO ?_ | (with_reducible intro z hz); (first | (replace hz := hz (by omega); subst hz) | subst hz) | (refine CallV.mk _ (hC _ _ _ (PCw.of h1)) (fun js hjs => ?_); subst hjs) | (refine CallV.mk _ (hC _ _ _ (PCw.of h2)) (fun js hjs => ?_); subst hjs) | (refine CallV.mk _ (hC _ _ _ (PCw.of h3)) (fun js hjs => ?_); subst hjs) | (refine CallV.mk _ (hC _ _ _ (PCw.of h4)) (fun js hjs => ?_); subst hjs) | (refine CallV.mk _ (hC _ _ _ (PCw.of h5)) (fun js hjs => ?_); subst hjs) | (refine CallV.mk _ (hC _ _ _ (PCw.of h6)) (fun js hjs => ?_); subst hjs) | (refine CallV.mk _ (hC _ _ _ (PCw.of h7)) (fun js hjs => ?_); subst hjs)); (try (conv => whnf))))
 exact hfin _ (ILes.refl _)
theorem lawSums (s : Str) : PC Tryd.prog envH 3 [.str s] [.bool true] := by
 have hA := awake_pc
 by_cases hs : s.size ≤ 3000
 · have hS := sum_pc' s (by omega)
   have hT := rtext_pc s (by omega)
   change PC _ _ _ _ [.str (hashS s)] at hT
   generalize hashS s = h at *
   refine PC.of_va (T := tbz) eqs_ok tbz_ok rfl mixed Tryd.func3 rfl rfl (Nat.le_of_ble_eq_true rfl) ?_; intro Γ C WK LP fin h0 hW hC hB hR hLP hfin
   (try (conv => whnf)); (repeat ((first | refine qT ?_ | refine qF ?_ | refine qO ?_ | (with_reducible intro z hz); (first | (replace hz := hz (by omega); subst hz) | subst hz) | (refine CallV.mk _ (hC _ _ _ (PCw.of hS)) (fun js hjs => ?_); subst hjs) | (refine CallV.mk _ (hC _ _ _ (PCw.of hT)) (fun js hjs => ?_); subst hjs) | (refine CallV.mk _ (hC _ _ _ (PCw.of hA)) (fun js hjs => ?_); subst hjs)); (try (conv => whnf))))
   exact hfin _ (ILes.refl _)
 · refine PC.of_va (T := tbz) eqs_ok tbz_ok rfl mixed Tryd.func3 rfl rfl (Nat.le_of_ble_eq_true rfl) ?_; intro Γ C WK LP fin h0 hW hC hB hR hLP hfin
   (try (conv => whnf)); (repeat ((first | refine qT ?_ | refine qF ?_ | refine qO ?_ | (with_reducible intro z hz); (first | (replace hz := hz (by omega); subst hz) | subst hz) | (refine CallV.mk _ (hC _ _ _ (PCw.of hA)) (fun js hjs => ?_); subst hjs)); (try (conv => whnf))))
   exact hfin _ (ILes.refl _)
end Go.Proofs.YtopohipcpomecaaDoor.Pd
