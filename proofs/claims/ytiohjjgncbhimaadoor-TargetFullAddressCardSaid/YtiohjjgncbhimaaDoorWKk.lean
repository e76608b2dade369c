/-
  The reference's Goes.
-/
import Derived.Test.YtiohjjgncbhimaaDoorWKn
namespace Go.Proofs.YtiohjjgncbhimaaDoor.Pk
open Go Go.Pv Go.RowKit Go.Proofs.YtiohjjgncbhimaaDoor.Pu Go.Proofs.YtiohjjgncbhimaaDoor.Pa Go.Proofs.YtiohjjgncbhimaaDoor.Pb
set_option linter.unusedSimpArgs false
open Lab Lcs Go.Proofs.YtiohjjgncbhimaaDoor
set_option maxRecDepth 10000
set_option maxHeartbeats 32000000
noncomputable def goesA (u : Ut) (x : It) : Trip × Int × Int := if x.kind = 0 then whereA u x.p x.z else if x.kind = 6 then goesM u x else (Trip.zero, 0, 1)
theorem goesM_pc (u : Ut) (x : It) (hk : x.kind = 6) (hc : u.count ≤ 10000) (hp : ∀ s ∈ x.p, shortS s) (hq : ∀ s ∈ x.q, shortS s) : PC Tryd.prog envU 18 [uv u, itv x] (out3 (goesM u x)) := by
 have hO := one7_pc u x.p hc hp
 have hT := one7_pc u x.q hc hq
 have hWh := where_pc u x.q x.z hc hq
 have hue := uv_eq u
 have hxe := itv_eq x
 rw [hk] at hxe
 unfold goesM
 unfold whereA at hWh
 rw [hxe]
 by_cases hz : 0 ≤ x.z ∧ x.z ≤ 3
 case neg =>
   rw [if_neg hz]
   unfold out3
   rw [hue]
   unfold idv idl at *
   by_cases hz0 : x.z < 0
   · refine PC.of_va (T := tb0) eqs2_ok tb_ok rfl mixed Tryd.func18 rfl rfl (Nat.le_of_ble_eq_true rfl) ?_; intro Γ C WK LP fin h0 hW hC hB hR hLP hfin
     (try (conv => whnf)); (repeat ((first | refine qT ?_ | refine qF ?_ | refine qO ?_ | (with_reducible intro z hz); (first | (replace hz := hz (by omega); subst hz) | subst hz)); (try (conv => whnf))))
     exact hfin _ (ILes.refl _)
   · refine PC.of_va (T := tb0) eqs2_ok tb_ok rfl mixed Tryd.func18 rfl rfl (Nat.le_of_ble_eq_true rfl) ?_; intro Γ C WK LP fin h0 hW hC hB hR hLP hfin
     (try (conv => whnf)); (repeat ((first | refine qT ?_ | refine qF ?_ | refine qO ?_ | (with_reducible intro z hz); (first | (replace hz := hz (by omega); subst hz) | subst hz)); (try (conv => whnf))))
     exact hfin _ (ILes.refl _)
 rw [if_pos hz] at hWh ⊢
 generalize oneA u x.p = o at hO ⊢
 obtain ⟨t, e⟩ := o
 generalize oneA u x.q = o2 at hT hWh ⊢
 obtain ⟨tu, f⟩ := o2
 dsimp only at hO hT hWh ⊢
 by_cases h0 : e = 0
 case neg =>
   rw [if_neg h0]
   clear hWh
   unfold out3
   rw [hue] at hO hT ⊢
   unfold idv idl at *
   refine PC.of_va (T := tb0) eqs2_ok tb_ok rfl mixed Tryd.func18 rfl rfl (Nat.le_of_ble_eq_true rfl) ?_; intro Γ C WK LP fin h0 hW hC hB hR hLP hfin
   (try (conv => whnf)); (repeat ((first | refine qT ?_ | refine qF ?_ | refine qO ?_ | (with_reducible intro z hz); (first | (replace hz := hz (by omega); subst hz) | subst hz) | (refine CallV.mk _ (hC _ _ _ (PCw.of hO)) (fun js hjs => ?_); subst hjs)); (try (conv => whnf))))
   exact hfin _ (ILes.refl _)
 rw [if_pos h0]
 by_cases h1 : f = 0
 case neg =>
   rw [if_neg h1]
   clear hWh
   unfold out3
   rw [hue] at hO hT ⊢
   unfold idv idl at *
   refine PC.of_va (T := tb0) eqs2_ok tb_ok rfl mixed Tryd.func18 rfl rfl (Nat.le_of_ble_eq_true rfl) ?_; intro Γ C WK LP fin h0 hW hC hB hR hLP hfin
   (try (conv => whnf)); (repeat ((first | refine qT ?_ | refine qF ?_ | refine qO ?_ | (with_reducible intro z hz); (first | (replace hz := hz (by omega); subst hz) | subst hz) | (refine CallV.mk _ (hC _ _ _ (PCw.of hO)) (fun js hjs => ?_); subst hjs) | (refine CallV.mk _ (hC _ _ _ (PCw.of hT)) (fun js hjs => ?_); subst hjs)); (try (conv => whnf))))
   exact hfin _ (ILes.refl _)
 rw [if_pos h1] at hWh ⊢
 have hF := rfind_pc t u.count u (Nat.le_refl _) (by omega)
 have hfc := find_count t u
 have hG := rfind_pc tu (findU t u).count (findU t u) (Nat.le_refl _) (by omega)
 have hP := rparent_pc t u.count u (Nat.le_refl _) (by omega)
 have hb := par_bound (t := t) (u := u)
 have hwb := where_bound u tu x.z
 have huid : u.id = u.id := rfl
 unfold refG
 generalize foundB t u = b0 at hF
 generalize foundB tu (findU t u) = b at hG ⊢
 generalize findU tu (findU t u) = y2 at hG
 generalize findU t u = y at hF hG
 generalize parV t u = r at hP hb ⊢
 generalize whereF u x.z tu = w at hWh hwb ⊢
 obtain ⟨r1, r2, r3⟩ := r
 obtain ⟨a, n, g⟩ := w
 dsimp only at hP hb hWh hwb ⊢
 unfold out3 at hWh ⊢
 dsimp only at hWh
 rw [uv_eq y] at hF hG
 rw [uv_eq y2] at hG
 rw [hue] at hO hT hF hP hWh ⊢
 by_cases e1 : t = u.id
 · have i1 := id_eq e1
   rw [if_pos (Or.inl e1)]
   unfold idv idl at *
   by_cases hbs : 2 ≤ x.z
   · refine PC.of_va (T := tb0) eqs2_ok tb_ok rfl mixed Tryd.func18 rfl rfl (Nat.le_of_ble_eq_true rfl) ?_; intro Γ C WK LP fin h0 hW hC hB hR hLP hfin
     (try (conv => whnf)); (repeat ((first | refine qT ?_ | refine qF ?_ | refine qO ?_ | (with_reducible intro z hz); (first | (replace hz := hz (by omega); subst hz) | subst hz) | (refine CallV.mk _ (hC _ _ _ (PCw.of hO)) (fun js hjs => ?_); subst hjs) | (refine CallV.mk _ (hC _ _ _ (PCw.of hT)) (fun js hjs => ?_); subst hjs) | (refine CallV.mk _ (hC _ _ _ (PCw.of hF)) (fun js hjs => ?_); subst hjs) | (refine CallV.mk _ (hC _ _ _ (PCw.of hG)) (fun js hjs => ?_); subst hjs)); (try (conv => whnf))))
     exact hfin _ (ILes.refl _)
   · refine PC.of_va (T := tb0) eqs2_ok tb_ok rfl mixed Tryd.func18 rfl rfl (Nat.le_of_ble_eq_true rfl) ?_; intro Γ C WK LP fin h0 hW hC hB hR hLP hfin
     (try (conv => whnf)); (repeat ((first | refine qT ?_ | refine qF ?_ | refine qO ?_ | (with_reducible intro z hz); (first | (replace hz := hz (by omega); subst hz) | subst hz) | (refine CallV.mk _ (hC _ _ _ (PCw.of hO)) (fun js hjs => ?_); subst hjs) | (refine CallV.mk _ (hC _ _ _ (PCw.of hT)) (fun js hjs => ?_); subst hjs) | (refine CallV.mk _ (hC _ _ _ (PCw.of hF)) (fun js hjs => ?_); subst hjs) | (refine CallV.mk _ (hC _ _ _ (PCw.of hG)) (fun js hjs => ?_); subst hjs)); (try (conv => whnf))))
     exact hfin _ (ILes.refl _)
 have i1 := id_ne e1
 by_cases hbs : 2 ≤ x.z
 · by_cases e2 : tu = u.id
   · have i2 := id_eq e2
     rw [if_pos (Or.inr (Or.inl ⟨hbs, e2⟩))]
     unfold idv idl at *
     refine PC.of_va (T := tb0) eqs2_ok tb_ok rfl mixed Tryd.func18 rfl rfl (Nat.le_of_ble_eq_true rfl) ?_; intro Γ C WK LP fin h0 hW hC hB hR hLP hfin
     (try (conv => whnf)); (repeat ((first | refine qT ?_ | refine qF ?_ | refine qO ?_ | (with_reducible intro z hz); (first | (replace hz := hz (by omega); subst hz) | subst hz) | (refine CallV.mk _ (hC _ _ _ (PCw.of hO)) (fun js hjs => ?_); subst hjs) | (refine CallV.mk _ (hC _ _ _ (PCw.of hT)) (fun js hjs => ?_); subst hjs) | (refine CallV.mk _ (hC _ _ _ (PCw.of hF)) (fun js hjs => ?_); subst hjs) | (refine CallV.mk _ (hC _ _ _ (PCw.of hG)) (fun js hjs => ?_); subst hjs)); (try (conv => whnf))))
     exact hfin _ (ILes.refl _)
   have i2 := id_ne e2
   by_cases e3 : tu = t
   · have i3 := id_eq e3
     have i3' := id_eq e3.symm
     rw [if_neg (by rintro (h | h | h | h); exact e1 h; exact e2 h.2; exact h.2 e3; exact h.2 hbs), if_pos e3]
     cases b
     all_goals
       unfold idv idl at *
       refine PC.of_va (T := tb0) eqs2_ok tb_ok rfl mixed Tryd.func18 rfl rfl (Nat.le_of_ble_eq_true rfl) ?_; intro Γ C WK LP fin h0 hW hC hB hR hLP hfin
       (try (conv => whnf)); (repeat ((first | refine qT ?_ | refine qF ?_ | refine qO ?_ | (with_reducible intro z hz); (first | (replace hz := hz (by omega); subst hz) | subst hz) | (refine CallV.mk _ (hC _ _ _ (PCw.of hO)) (fun js hjs => ?_); subst hjs) | (refine CallV.mk _ (hC _ _ _ (PCw.of hT)) (fun js hjs => ?_); subst hjs) | (refine CallV.mk _ (hC _ _ _ (PCw.of hF)) (fun js hjs => ?_); subst hjs) | (refine CallV.mk _ (hC _ _ _ (PCw.of hG)) (fun js hjs => ?_); subst hjs) | (refine CallV.mk _ (hC _ _ _ (PCw.of hP)) (fun js hjs => ?_); subst hjs)); (try (conv => whnf))))
       exact hfin _ (ILes.refl _)
   have i3 := id_ne e3
   cases b
   · rw [if_neg (by rintro (h | h | h | h); exact e1 h; exact e2 h.2; exact absurd h.1 (by decide); exact e3 h.1), if_neg e3]
     by_cases e4 : a = r1
     · have i4 := id_eq e4
       by_cases e5 : r2 < n
       · rw [if_pos ⟨e4, e5⟩]
         unfold idv idl at *
         refine PC.of_va (T := tb0) eqs2_ok tb_ok rfl mixed Tryd.func18 rfl rfl (Nat.le_of_ble_eq_true rfl) ?_; intro Γ C WK LP fin h0 hW hC hB hR hLP hfin
         (try (conv => whnf)); (repeat ((first | refine qT ?_ | refine qF ?_ | refine qO ?_ | (with_reducible intro z hz); (first | (replace hz := hz (by omega); subst hz) | subst hz) | (refine CallV.mk _ (hC _ _ _ (PCw.of hO)) (fun js hjs => ?_); subst hjs) | (refine CallV.mk _ (hC _ _ _ (PCw.of hT)) (fun js hjs => ?_); subst hjs) | (refine CallV.mk _ (hC _ _ _ (PCw.of hF)) (fun js hjs => ?_); subst hjs) | (refine CallV.mk _ (hC _ _ _ (PCw.of hG)) (fun js hjs => ?_); subst hjs) | (refine CallV.mk _ (hC _ _ _ (PCw.of hP)) (fun js hjs => ?_); subst hjs) | (refine CallV.mk _ (hC _ _ _ (PCw.of hWh)) (fun js hjs => ?_); subst hjs)); (try (conv => whnf))))
         exact hfin _ (ILes.refl _)
       · rw [if_neg (fun h => e5 h.2)]
         unfold idv idl at *
         refine PC.of_va (T := tb0) eqs2_ok tb_ok rfl mixed Tryd.func18 rfl rfl (Nat.le_of_ble_eq_true rfl) ?_; intro Γ C WK LP fin h0 hW hC hB hR hLP hfin
         (try (conv => whnf)); (repeat ((first | refine qT ?_ | refine qF ?_ | refine qO ?_ | (with_reducible intro z hz); (first | (replace hz := hz (by omega); subst hz) | subst hz) | (refine CallV.mk _ (hC _ _ _ (PCw.of hO)) (fun js hjs => ?_); subst hjs) | (refine CallV.mk _ (hC _ _ _ (PCw.of hT)) (fun js hjs => ?_); subst hjs) | (refine CallV.mk _ (hC _ _ _ (PCw.of hF)) (fun js hjs => ?_); subst hjs) | (refine CallV.mk _ (hC _ _ _ (PCw.of hG)) (fun js hjs => ?_); subst hjs) | (refine CallV.mk _ (hC _ _ _ (PCw.of hP)) (fun js hjs => ?_); subst hjs) | (refine CallV.mk _ (hC _ _ _ (PCw.of hWh)) (fun js hjs => ?_); subst hjs)); (try (conv => whnf))))
         exact hfin _ (ILes.refl _)
     · have i4 := id_ne e4
       rw [if_neg (fun h => e4 h.1)]
       unfold idv idl at *
       refine PC.of_va (T := tb0) eqs2_ok tb_ok rfl mixed Tryd.func18 rfl rfl (Nat.le_of_ble_eq_true rfl) ?_; intro Γ C WK LP fin h0 hW hC hB hR hLP hfin
       (try (conv => whnf)); (repeat ((first | refine qT ?_ | refine qF ?_ | refine qO ?_ | (with_reducible intro z hz); (first | (replace hz := hz (by omega); subst hz) | subst hz) | (refine CallV.mk _ (hC _ _ _ (PCw.of hO)) (fun js hjs => ?_); subst hjs) | (refine CallV.mk _ (hC _ _ _ (PCw.of hT)) (fun js hjs => ?_); subst hjs) | (refine CallV.mk _ (hC _ _ _ (PCw.of hF)) (fun js hjs => ?_); subst hjs) | (refine CallV.mk _ (hC _ _ _ (PCw.of hG)) (fun js hjs => ?_); subst hjs) | (refine CallV.mk _ (hC _ _ _ (PCw.of hP)) (fun js hjs => ?_); subst hjs) | (refine CallV.mk _ (hC _ _ _ (PCw.of hWh)) (fun js hjs => ?_); subst hjs)); (try (conv => whnf))))
       exact hfin _ (ILes.refl _)
   · rw [if_pos (Or.inr (Or.inr (Or.inl ⟨rfl, e3⟩)))]
     unfold idv idl at *
     refine PC.of_va (T := tb0) eqs2_ok tb_ok rfl mixed Tryd.func18 rfl rfl (Nat.le_of_ble_eq_true rfl) ?_; intro Γ C WK LP fin h0 hW hC hB hR hLP hfin
     (try (conv => whnf)); (repeat ((first | refine qT ?_ | refine qF ?_ | refine qO ?_ | (with_reducible intro z hz); (first | (replace hz := hz (by omega); subst hz) | subst hz) | (refine CallV.mk _ (hC _ _ _ (PCw.of hO)) (fun js hjs => ?_); subst hjs) | (refine CallV.mk _ (hC _ _ _ (PCw.of hT)) (fun js hjs => ?_); subst hjs) | (refine CallV.mk _ (hC _ _ _ (PCw.of hF)) (fun js hjs => ?_); subst hjs) | (refine CallV.mk _ (hC _ _ _ (PCw.of hG)) (fun js hjs => ?_); subst hjs)); (try (conv => whnf))))
     exact hfin _ (ILes.refl _)
 · by_cases e3 : tu = t
   · have i3 := id_eq e3
     rw [if_pos (Or.inr (Or.inr (Or.inr ⟨e3, hbs⟩)))]
     cases b
     all_goals
       unfold idv idl at *
       refine PC.of_va (T := tb0) eqs2_ok tb_ok rfl mixed Tryd.func18 rfl rfl (Nat.le_of_ble_eq_true rfl) ?_; intro Γ C WK LP fin h0 hW hC hB hR hLP hfin
       (try (conv => whnf)); (repeat ((first | refine qT ?_ | refine qF ?_ | refine qO ?_ | (with_reducible intro z hz); (first | (replace hz := hz (by omega); subst hz) | subst hz) | (refine CallV.mk _ (hC _ _ _ (PCw.of hO)) (fun js hjs => ?_); subst hjs) | (refine CallV.mk _ (hC _ _ _ (PCw.of hT)) (fun js hjs => ?_); subst hjs) | (refine CallV.mk _ (hC _ _ _ (PCw.of hF)) (fun js hjs => ?_); subst hjs) | (refine CallV.mk _ (hC _ _ _ (PCw.of hG)) (fun js hjs => ?_); subst hjs)); (try (conv => whnf))))
       exact hfin _ (ILes.refl _)
   have i3 := id_ne e3
   cases b
   · rw [if_neg (by rintro (h | h | h | h); exact e1 h; exact hbs h.1; exact absurd h.1 (by decide); exact e3 h.1), if_neg e3]
     by_cases e4 : a = r1
     · have i4 := id_eq e4
       by_cases e5 : r2 < n
       · rw [if_pos ⟨e4, e5⟩]
         unfold idv idl at *
         refine PC.of_va (T := tb0) eqs2_ok tb_ok rfl mixed Tryd.func18 rfl rfl (Nat.le_of_ble_eq_true rfl) ?_; intro Γ C WK LP fin h0 hW hC hB hR hLP hfin
         (try (conv => whnf)); (repeat ((first | refine qT ?_ | refine qF ?_ | refine qO ?_ | (with_reducible intro z hz); (first | (replace hz := hz (by omega); subst hz) | subst hz) | (refine CallV.mk _ (hC _ _ _ (PCw.of hO)) (fun js hjs => ?_); subst hjs) | (refine CallV.mk _ (hC _ _ _ (PCw.of hT)) (fun js hjs => ?_); subst hjs) | (refine CallV.mk _ (hC _ _ _ (PCw.of hF)) (fun js hjs => ?_); subst hjs) | (refine CallV.mk _ (hC _ _ _ (PCw.of hG)) (fun js hjs => ?_); subst hjs) | (refine CallV.mk _ (hC _ _ _ (PCw.of hP)) (fun js hjs => ?_); subst hjs) | (refine CallV.mk _ (hC _ _ _ (PCw.of hWh)) (fun js hjs => ?_); subst hjs)); (try (conv => whnf))))
         exact hfin _ (ILes.refl _)
       · rw [if_neg (fun h => e5 h.2)]
         unfold idv idl at *
         refine PC.of_va (T := tb0) eqs2_ok tb_ok rfl mixed Tryd.func18 rfl rfl (Nat.le_of_ble_eq_true rfl) ?_; intro Γ C WK LP fin h0 hW hC hB hR hLP hfin
         (try (conv => whnf)); (repeat ((first | refine qT ?_ | refine qF ?_ | refine qO ?_ | (with_reducible intro z hz); (first | (replace hz := hz (by omega); subst hz) | subst hz) | (refine CallV.mk _ (hC _ _ _ (PCw.of hO)) (fun js hjs => ?_); subst hjs) | (refine CallV.mk _ (hC _ _ _ (PCw.of hT)) (fun js hjs => ?_); subst hjs) | (refine CallV.mk _ (hC _ _ _ (PCw.of hF)) (fun js hjs => ?_); subst hjs) | (refine CallV.mk _ (hC _ _ _ (PCw.of hG)) (fun js hjs => ?_); subst hjs) | (refine CallV.mk _ (hC _ _ _ (PCw.of hP)) (fun js hjs => ?_); subst hjs) | (refine CallV.mk _ (hC _ _ _ (PCw.of hWh)) (fun js hjs => ?_); subst hjs)); (try (conv => whnf))))
         exact hfin _ (ILes.refl _)
     · have i4 := id_ne e4
       rw [if_neg (fun h => e4 h.1)]
       unfold idv idl at *
       refine PC.of_va (T := tb0) eqs2_ok tb_ok rfl mixed Tryd.func18 rfl rfl (Nat.le_of_ble_eq_true rfl) ?_; intro Γ C WK LP fin h0 hW hC hB hR hLP hfin
       (try (conv => whnf)); (repeat ((first | refine qT ?_ | refine qF ?_ | refine qO ?_ | (with_reducible intro z hz); (first | (replace hz := hz (by omega); subst hz) | subst hz) | (refine CallV.mk _ (hC _ _ _ (PCw.of hO)) (fun js hjs => ?_); subst hjs) | (refine CallV.mk _ (hC _ _ _ (PCw.of hT)) (fun js hjs => ?_); subst hjs) | (refine CallV.mk _ (hC _ _ _ (PCw.of hF)) (fun js hjs => ?_); subst hjs) | (refine CallV.mk _ (hC _ _ _ (PCw.of hG)) (fun js hjs => ?_); subst hjs) | (refine CallV.mk _ (hC _ _ _ (PCw.of hP)) (fun js hjs => ?_); subst hjs) | (refine CallV.mk _ (hC _ _ _ (PCw.of hWh)) (fun js hjs => ?_); subst hjs)); (try (conv => whnf))))
       exact hfin _ (ILes.refl _)
   · rw [if_pos (Or.inr (Or.inr (Or.inl ⟨rfl, e3⟩)))]
     unfold idv idl at *
     refine PC.of_va (T := tb0) eqs2_ok tb_ok rfl mixed Tryd.func18 rfl rfl (Nat.le_of_ble_eq_true rfl) ?_; intro Γ C WK LP fin h0 hW hC hB hR hLP hfin
     (try (conv => whnf)); (repeat ((first | refine qT ?_ | refine qF ?_ | refine qO ?_ | (with_reducible intro z hz); (first | (replace hz := hz (by omega); subst hz) | subst hz) | (refine CallV.mk _ (hC _ _ _ (PCw.of hO)) (fun js hjs => ?_); subst hjs) | (refine CallV.mk _ (hC _ _ _ (PCw.of hT)) (fun js hjs => ?_); subst hjs) | (refine CallV.mk _ (hC _ _ _ (PCw.of hF)) (fun js hjs => ?_); subst hjs) | (refine CallV.mk _ (hC _ _ _ (PCw.of hG)) (fun js hjs => ?_); subst hjs)); (try (conv => whnf))))
     exact hfin _ (ILes.refl _)
theorem goes_pc (u : Ut) (x : It) (hc : u.count ≤ 10000) (hp : ∀ s ∈ x.p, shortS s) (hq : ∀ s ∈ x.q, shortS s) : PC Tryd.prog envU 18 [uv u, itv x] (out3 (goesA u x)) := by
 unfold goesA
 by_cases h6 : x.kind = 6
 · rw [if_neg (by omega), if_pos h6]
   exact goesM_pc u x h6 hc hp hq
 have hue := uv_eq u
 have hxe := itv_eq x
 by_cases h0 : x.kind = 0
 · rw [if_pos h0]
   have hWh := where_pc u x.p x.z hc hp
   by_cases hz : 0 ≤ x.z ∧ x.z ≤ 3
   · generalize whereA u x.p x.z = q at hWh ⊢
     unfold out3 at *
     rw [hxe]
     rw [hue] at hWh ⊢
     unfold idv idl at *
     refine PC.of_va (T := tb0) eqs2_ok tb_ok rfl mixed Tryd.func18 rfl rfl (Nat.le_of_ble_eq_true rfl) ?_; intro Γ C WK LP fin h0 hW hC hB hR hLP hfin
     (try (conv => whnf)); (repeat ((first | refine qT ?_ | refine qF ?_ | refine qO ?_ | (with_reducible intro z hz); (first | (replace hz := hz (by omega); subst hz) | subst hz) | (refine CallV.mk _ (hC _ _ _ (PCw.of hWh)) (fun js hjs => ?_); subst hjs)); (try (conv => whnf))))
     exact hfin _ (ILes.refl _)
   · have : whereA u x.p x.z = (Trip.zero, 0, 1) := by unfold whereA; rw [if_neg hz]
     rw [this]
     clear hWh
     unfold out3
     rw [hxe, hue]
     unfold idv idl at *
     by_cases hz0 : x.z < 0
     · refine PC.of_va (T := tb0) eqs2_ok tb_ok rfl mixed Tryd.func18 rfl rfl (Nat.le_of_ble_eq_true rfl) ?_; intro Γ C WK LP fin h0 hW hC hB hR hLP hfin
       (try (conv => whnf)); (repeat ((first | refine qT ?_ | refine qF ?_ | refine qO ?_ | (with_reducible intro z hz); (first | (replace hz := hz (by omega); subst hz) | subst hz)); (try (conv => whnf))))
       exact hfin _ (ILes.refl _)
     · refine PC.of_va (T := tb0) eqs2_ok tb_ok rfl mixed Tryd.func18 rfl rfl (Nat.le_of_ble_eq_true rfl) ?_; intro Γ C WK LP fin h0 hW hC hB hR hLP hfin
       (try (conv => whnf)); (repeat ((first | refine qT ?_ | refine qF ?_ | refine qO ?_ | (with_reducible intro z hz); (first | (replace hz := hz (by omega); subst hz) | subst hz)); (try (conv => whnf))))
       exact hfin _ (ILes.refl _)
 · rw [if_neg h0, if_neg h6]
   unfold out3
   rw [hxe, hue]
   unfold idv idl at *
   refine PC.of_va (T := tb0) eqs2_ok tb_ok rfl mixed Tryd.func18 rfl rfl (Nat.le_of_ble_eq_true rfl) ?_; intro Γ C WK LP fin h0 hW hC hB hR hLP hfin
   (try (conv => whnf)); (repeat ((first | refine qT ?_ | refine qF ?_ | refine qO ?_ | (with_reducible intro z hz); (first | (replace hz := hz (by omega); subst hz) | subst hz)); (try (conv => whnf))))
   exact hfin _ (ILes.refl _)
end Go.Proofs.YtiohjjgncbhimaaDoor.Pk
