/-
  What stamping keeps; the law of Stamp.
-/
import Derived.Test.YtckamfmllkpafaaWSd
namespace Go.Proofs.Ytckamfmllkpafaa.Pw
open Go Go.Pv Go.RowKit Go.Proofs.Ytckamfmllkpafaa.Pu Go.Proofs.Ytckamfmllkpafaa.Pb
set_option linter.unusedSimpArgs false
open Lab Lcs Go.Proofs.Ytckamfmllkpafaa Go.Proofs.Ytckamfmllkpafaa.Pt
set_option maxRecDepth 10000
set_option maxHeartbeats 16000000
theorem txts_mk (a i : Int) : ∀ (f : Int) (l : List Str), txts (mkW a i f l) = l
 | _, [] => rfl
 | f, s :: r => by
   have := txts_mk a i (f + 1) r
   unfold txts at this ⊢
   rw [mkW, List.map_cons, this]
theorem bare_mk (a i : Int) : ∀ (f : Int) (l : List Wd), bareW (mkW a i f (txts l)) = bareW l
 | _, [] => rfl
 | f, w :: r => by
   have := bare_mk a i (f + 1) r
   unfold bareW txts at this ⊢
   rw [List.map_cons, mkW, List.map_cons, this, List.map_cons]
   rfl
theorem mk_len (a i f : Int) (l : List Wd) : (mkW a i f (txts l)).length = l.length := by rw [mkW_len, txts_len]
mutual
theorem st_count (a i : Int) : ∀ (n m : Int) (u : Ut), (stU a i n m u).count = u.count
 | n, m, .mk id kind label head words kids => by rw [stU, count_mk, count_mk, stL_count a i _ _ kids]
theorem stL_count (a i : Int) : ∀ (n m : Int) (l : List Ut), Ut.counts (stL a i n m l) = Ut.counts l
 | _, _, [] => by rw [stL]
 | n, m, u :: r => by simp only [stL, Ut.counts, st_count a i n m u, stL_count a i _ _ r]
end
mutual
theorem st_wds (a i : Int) : ∀ (n m : Int) (u : Ut), wdsU (stU a i n m u) = wdsU u
 | n, m, .mk id kind label head words kids => by rw [stU, wdsU, wdsU, stL_wds a i _ _ kids, mk_len, mk_len]
theorem stL_wds (a i : Int) : ∀ (n m : Int) (l : List Ut), wdsL (stL a i n m l) = wdsL l
 | _, _, [] => by rw [stL]
 | n, m, u :: r => by simp only [stL, wdsL, st_wds a i n m u, stL_wds a i _ _ r]
end
mutual
theorem st_strip (a i : Int) : ∀ (n m : Int) (u : Ut), (stU a i n m u).strip = u.strip
 | n, m, .mk id kind label head words kids => by rw [stU, Ut.strip, Ut.strip, stL_strip a i _ _ kids, bare_mk, bare_mk]
theorem stL_strip (a i : Int) : ∀ (n m : Int) (l : List Ut), Ut.strips (stL a i n m l) = Ut.strips l
 | _, _, [] => by rw [stL]
 | n, m, u :: r => by simp only [stL, Ut.strips, st_strip a i n m u, stL_strip a i _ _ r]
end
mutual
theorem st_st (a i : Int) : ∀ (n m n' m' : Int) (u : Ut), stU a i n m (stU a i n' m' u) = stU a i n m u
 | n, m, n', m', .mk id kind label head words kids => by rw [stU, stU, stU, txts_mk, txts_mk, mk_len, mk_len, stL_st a i _ _ _ _ kids]
theorem stL_st (a i : Int) : ∀ (n m n' m' : Int) (l : List Ut), stL a i n m (stL a i n' m' l) = stL a i n m l
 | _, _, _, _, [] => by simp only [stL]
 | n, m, n', m', u :: r => by simp only [stL, st_st a i n m n' m' u, st_count, st_wds, stL_st a i _ _ _ _ r]
end
theorem Sml.of {u : Ut} (h : u.head.length ≤ 300 ∧ u.words.length ≤ 300 ∧ u.kids.length ≤ 1000) (hk : ∀ k ∈ u.kids, Sml k) : Sml u := fun x hx => by
 rw [Ut.all_eq] at hx
 rcases List.mem_cons.1 hx with rfl | hx
 · exact h
 · obtain ⟨k, h1, h2⟩ := mem_alls.1 hx
   exact hk k h1 x h2
mutual
theorem st_sml (a i : Int) : ∀ (n m : Int) (u : Ut), Sml u → Sml (stU a i n m u)
 | n, m, .mk id kind label head words kids, h => by
   obtain ⟨h1, h2, h3⟩ := h.self
   refine Sml.of ?_ ?_
   · rw [stU]
     exact ⟨Nat.le_trans (Nat.le_of_eq (mk_len a i m head)) h1, Nat.le_trans (Nat.le_of_eq (mk_len a i _ words)) h2, Nat.le_trans (Nat.le_of_eq (stL_len a i _ _ kids)) h3⟩
   · rw [stU]
     exact stL_sml a i _ _ kids fun k hk => h.kid hk
theorem stL_sml (a i : Int) : ∀ (n m : Int) (l : List Ut), (∀ x ∈ l, Sml x) → ∀ x ∈ stL a i n m l, Sml x
 | _, _, [], _, x, hx => by rw [stL] at hx; cases hx
 | n, m, u :: r, h, x, hx => by
   rw [stL] at hx
   rcases List.mem_cons.1 hx with rfl | hx
   · exact st_sml a i n m u (h u List.mem_cons_self)
   · exact stL_sml a i _ _ r (fun y hy => h y (List.mem_cons_of_mem _ hy)) x hx
end
theorem bare_len (l : List Wd) : (bareW l).length = l.length := List.length_map _
mutual
theorem strip_sml : ∀ u : Ut, Sml u → Sml u.strip
 | .mk id kind label head words kids, h => by
   obtain ⟨h1, h2, h3⟩ := h.self
   refine Sml.of ?_ ?_
   · rw [Ut.strip]
     exact ⟨Nat.le_trans (Nat.le_of_eq (bare_len head)) h1, Nat.le_trans (Nat.le_of_eq (bare_len words)) h2, Nat.le_trans (Nat.le_of_eq (strips_length kids)) h3⟩
   · rw [Ut.strip]
     exact strips_sml kids fun k hk => h.kid hk
theorem strips_sml : ∀ l : List Ut, (∀ x ∈ l, Sml x) → ∀ x ∈ Ut.strips l, Sml x
 | [], _, x, hx => by rw [Ut.strips] at hx; cases hx
 | u :: r, h, x, hx => by
   rw [Ut.strips] at hx
   rcases List.mem_cons.1 hx with rfl | hx
   · exact strip_sml u (h u List.mem_cons_self)
   · exact strips_sml r (fun y hy => h y (List.mem_cons_of_mem _ hy)) x hx
end
theorem lawStamps (u : Ut) (hf : Fits u) (a i : Int) : PC Try.prog env0 3 [uv u, .int .i64 a, .int .i64 i] [.bool true] := by
 have hA := awake_pc
 have hF := few6_pc u 60 hf (by omega) (by omega)
 have hue := uv_eq u
 cases hb : fewU u 60 with
 | false =>
   rw [hb] at hF
   rw [hue] at hF ⊢
   refine PC.of_va (T := tbs) eqs_ok tbs_ok rfl mixed Try.func3 rfl rfl (Nat.le_of_ble_eq_true rfl) ?_; intro Γ C WK LP fin h0 hW hC hB hR hLP hfin
   (try (conv => whnf)); (repeat ((first | refine qT ?_ | refine qF ?_ | refine qO ?_ | (with_reducible intro z hz); (first | (replace hz := hz (by omega); subst hz) | subst hz) | (refine CallV.mk _ (hC _ _ _ (PCw.of hA)) (fun js hjs => ?_); subst hjs) | (refine CallV.mk _ (hC _ _ _ (PCw.of hF)) (fun js hjs => ?_); subst hjs)); (try (conv => whnf))))
   exact hfin _ (ILes.refl _)
 | true =>
   have hS := few_small (m := 60) hb
   have hs := hS.sml (by omega)
   have hc := hS.1
   have hP1 := stamp_pc u a i (by omega) hs
   have hR1 := rStamp_pc u a i (by omega) hs
   have hs2 := st_sml a i 1 0 u hs
   have hc2 := st_count a i 1 0 u
   have hM1 := same6_pc _ (stU a i 1 0 u) (Nat.le_refl _) hs2
   have hT1 := strip_pc _ (stU a i 1 0 u) (Nat.le_refl _) hs2
   have hT2 := strip_pc _ u (Nat.le_refl _) hs
   have hM2 := same6_pc _ u.strip (Nat.le_refl _) (strip_sml u hs)
   have hP2 := stamp_pc (stU a i 1 0 u) a i (by omega) hs2
   rw [st_strip] at hT1
   rw [st_st] at hP2
   rw [hb] at hF
   have hsx := uv_eq (stU a i 1 0 u)
   have hsy := uv_eq u.strip
   clear hs hs2 hc2 hc hS hb
   generalize stU a i 1 0 u = x at *
   generalize u.strip = y at *
   rw [hue, hsx] at hP1 hR1
   rw [hue] at hF hT2 ⊢
   rw [hsx] at hM1 hT1 hP2
   rw [hsy] at hT1 hT2 hM2
   refine PC.of_va (T := tbs) eqs_ok tbs_ok rfl mixed Try.func3 rfl rfl (Nat.le_of_ble_eq_true rfl) ?_; intro Γ C WK LP fin h0 hW hC hB hR hLP hfin
   (try (conv => whnf)); (repeat ((first | refine qT ?_ | refine qF ?_ | refine qO ?_ | (with_reducible intro z hz); (first | (replace hz := hz (by omega); subst hz) | subst hz) | (refine CallV.mk _ (hC _ _ _ (PCw.of hA)) (fun js hjs => ?_); subst hjs) | (refine CallV.mk _ (hC _ _ _ (PCw.of hF)) (fun js hjs => ?_); subst hjs) | (refine CallV.mk _ (hC _ _ _ (PCw.of hP1)) (fun js hjs => ?_); subst hjs) | (refine CallV.mk _ (hC _ _ _ (PCw.of hR1)) (fun js hjs => ?_); subst hjs) | (refine CallV.mk _ (hC _ _ _ (PCw.of hM1)) (fun js hjs => ?_); subst hjs) | (refine CallV.mk _ (hC _ _ _ (PCw.of hT1)) (fun js hjs => ?_); subst hjs) | (refine CallV.mk _ (hC _ _ _ (PCw.of hT2)) (fun js hjs => ?_); subst hjs) | (refine CallV.mk _ (hC _ _ _ (PCw.of hM2)) (fun js hjs => ?_); subst hjs) | (refine CallV.mk _ (hC _ _ _ (PCw.of hP2)) (fun js hjs => ?_); subst hjs) | (refine CallV.mk _ (hC _ _ _ (PCw.of hM1)) (fun js hjs => ?_); subst hjs)); (try (conv => whnf))))
   exact hfin _ (ILes.refl _)
end Go.Proofs.Ytckamfmllkpafaa.Pw
