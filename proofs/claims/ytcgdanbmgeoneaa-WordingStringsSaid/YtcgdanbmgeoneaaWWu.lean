/-
  The texts of edited words are those of package wordseq.
-/
import Derived.Test.YtcgdanbmgeoneaaWWt
namespace Go.Proofs.Ytcgdanbmgeoneaa.Pw
open Go Go.Pv Go.RowKit Go.Proofs.Ytcgdanbmgeoneaa.Pu Go.Proofs.Ytcgdanbmgeoneaa.Pb
set_option linter.unusedSimpArgs false
open Lab Lcs Go.Proofs.Ytcgdanbmgeoneaa
set_option maxRecDepth 10000
set_option maxHeartbeats 16000000
theorem txts_seg (w : List Wd) (d n : Nat) : txts ((w.drop d).take n) = ((txts w).drop d).take n := by unfold txts; rw [List.map_take, List.map_drop]
theorem txts_spl {w : List Wd} {P : Nat} {nw : List Str} : ∀ (c : List Nat) (k d : Nat), txts (spl w P nw 7 1 k d c) = rwS (txts w) P nw d c
 | [], k, d => by
   show txts (w.drop d) = (txts w).drop d
   unfold txts; rw [List.map_drop]
 | t :: r, k, d => by
   show txts ((w.drop d).take (t - d) ++ mkW 7 1 _ nw ++ spl w P nw 7 1 (k + 1) (t + P) r) = ((txts w).drop d).take (t - d) ++ nw ++ rwS (txts w) P nw (t + P) r
   rw [txts_app, txts_app, txts_seg, txts_mkW, txts_spl r]
theorem txts_spl2 {w : List Wd} {p nw : List Str} : ∀ (c : List Nat) (k d : Nat), OkAt w.length p.length d c → (∀ t ∈ c, atB (txts w) p t = true) → txts (spl w 0 nw 7 1 k d (c.map (· + p.length))) = rwS (txts w) p.length (p ++ nw) d c
 | [], k, d, _, _ => by
   show txts (w.drop d) = (txts w).drop d
   unfold txts; rw [List.map_drop]
 | t :: r, k, d, ⟨h1, h2, h3⟩, ha => by
   have ht := ha t (by simp)
   unfold atB at ht
   have hp := of_decide_eq_true ht
   show txts ((w.drop d).take (t + p.length - d) ++ mkW 7 1 _ nw ++ spl w 0 nw 7 1 (k + 1) (t + p.length + 0) (r.map (· + p.length))) = ((txts w).drop d).take (t - d) ++ (p ++ nw) ++ rwS (txts w) p.length (p ++ nw) (t + p.length) r
   rw [txts_app, txts_app, txts_seg, txts_mkW, show txts (spl w 0 nw 7 1 (k + 1) (t + p.length + 0) (r.map (· + p.length))) = _ from txts_spl2 r (k + 1) (t + p.length) h3 (fun x hx => ha x (List.mem_cons_of_mem _ hx))]
   rw [show t + p.length - d = (t - d) + p.length by omega, List.take_add, List.drop_drop, show d + (t - d) = t by omega, hp]
   simp
theorem occF_at {l p : List Str} (hp : 0 < p.length) : ∀ (n i : Nat), l.length + 1 - i ≤ n → ∀ t ∈ occF l p i, atB l p t = true
 | 0, i, h, t, ht => by rw [occF_end (by omega)] at ht; cases ht
 | n + 1, i, h, t, ht => by
   by_cases h1 : i + p.length ≤ l.length
   · by_cases h2 : atB l p i = true
     · rw [occF_hit hp h1 h2] at ht
       rcases List.mem_cons.1 ht with rfl | ht
       · exact h2
       · exact occF_at hp n (i + p.length) (by omega) t ht
     · rw [occF_miss hp h1 h2] at ht
       exact occF_at hp n (i + 1) (by omega) t ht
   · rw [occF_end h1] at ht; cases ht
theorem chs_in {O : List Nat} {nth : Int} : ∀ t ∈ chs O nth, t ∈ O := by
 intro t ht
 unfold chs at ht
 split at ht
 · exact ht
 · exact List.mem_of_mem_drop (List.mem_of_mem_take ht)
theorem lawStrings (w : List Wd) (p nw : List Str) (nth : Int) (hw : w.length ≤ 9223372036854775807) (hp : p.length ≤ 9223372036854775807) (hn : nw.length ≤ 9223372036854775807) : PC Try.prog env0 7 [.sl 4 (w.map wdv), .sl 1 (p.map IV.str), .sl 1 (nw.map IV.str), .int .i64 nth] [.bool true] := by
 have hA := awake_pc
 have hF := few2_pc w p nw hw hp hn
 have hwz : (w.map wdv).length = w.length := List.length_map _
 have hpz : (p.map IV.str).length = p.length := List.length_map _
 have hnz : (nw.map IV.str).length = nw.length := List.length_map _
 cases hf : fewW w [p, nw] with
 | false =>
   rw [hf] at hF
   refine PC.of_va (T := tbx) eqs_ok tbf_ok rfl mixed Try.func7 rfl rfl (Nat.le_of_ble_eq_true rfl) ?_; intro Γ C WK LP fin h0 hW hC hB hR hLP hfin
   (try (conv => whnf)); (repeat ((first | refine qT ?_ | refine qF ?_ | refine qO ?_ | (with_reducible intro z hz); (first | (replace hz := hz (by omega); subst hz) | subst hz) | (refine CallV.mk _ (hC _ _ _ (PCw.of hA)) (fun js hjs => ?_); subst hjs)); (try (conv => whnf))))
   refine Imms.mk [.sl 1 (p.map IV.str), .sl 1 (nw.map IV.str)] rfl ?_
   (try (conv => whnf)); (repeat ((first | refine qT ?_ | refine qF ?_ | refine qO ?_ | (with_reducible intro z hz); (first | (replace hz := hz (by omega); subst hz) | subst hz) | (refine CallV.mk _ (hC _ _ _ (PCw.of hF)) (fun js hjs => ?_); subst hjs)); (try (conv => whnf))))
   exact hfin _ (ILes.refl _)
 | true =>
   rw [hf] at hF
   obtain ⟨h1, h2, h3⟩ := fewW_facts hf
   by_cases c1 : 200 < w.length
   · skip
     refine PC.of_va (T := tbx) eqs_ok tbf_ok rfl mixed Try.func7 rfl rfl (Nat.le_of_ble_eq_true rfl) ?_; intro Γ C WK LP fin h0 hW hC hB hR hLP hfin
     (try (conv => whnf)); (repeat ((first | refine qT ?_ | refine qF ?_ | refine qO ?_ | (with_reducible intro z hz); (first | (replace hz := hz (by omega); subst hz) | subst hz) | (refine CallV.mk _ (hC _ _ _ (PCw.of hA)) (fun js hjs => ?_); subst hjs)); (try (conv => whnf))))
     refine Imms.mk [.sl 1 (p.map IV.str), .sl 1 (nw.map IV.str)] rfl ?_
     (try (conv => whnf)); (repeat ((first | refine qT ?_ | refine qF ?_ | refine qO ?_ | (with_reducible intro z hz); (first | (replace hz := hz (by omega); subst hz) | subst hz) | (refine CallV.mk _ (hC _ _ _ (PCw.of hF)) (fun js hjs => ?_); subst hjs)); (try (conv => whnf))))
     exact hfin _ (ILes.refl _)
   by_cases c2 : p.length = 0
   · skip
     refine PC.of_va (T := tbx) eqs_ok tbf_ok rfl mixed Try.func7 rfl rfl (Nat.le_of_ble_eq_true rfl) ?_; intro Γ C WK LP fin h0 hW hC hB hR hLP hfin
     (try (conv => whnf)); (repeat ((first | refine qT ?_ | refine qF ?_ | refine qO ?_ | (with_reducible intro z hz); (first | (replace hz := hz (by omega); subst hz) | subst hz) | (refine CallV.mk _ (hC _ _ _ (PCw.of hA)) (fun js hjs => ?_); subst hjs)); (try (conv => whnf))))
     refine Imms.mk [.sl 1 (p.map IV.str), .sl 1 (nw.map IV.str)] rfl ?_
     (try (conv => whnf)); (repeat ((first | refine qT ?_ | refine qF ?_ | refine qO ?_ | (with_reducible intro z hz); (first | (replace hz := hz (by omega); subst hz) | subst hz) | (refine CallV.mk _ (hC _ _ _ (PCw.of hF)) (fun js hjs => ?_); subst hjs)); (try (conv => whnf))))
     exact hfin _ (ILes.refl _)
   by_cases c3 : nw.length = 0
   · skip
     refine PC.of_va (T := tbx) eqs_ok tbf_ok rfl mixed Try.func7 rfl rfl (Nat.le_of_ble_eq_true rfl) ?_; intro Γ C WK LP fin h0 hW hC hB hR hLP hfin
     (try (conv => whnf)); (repeat ((first | refine qT ?_ | refine qF ?_ | refine qO ?_ | (with_reducible intro z hz); (first | (replace hz := hz (by omega); subst hz) | subst hz) | (refine CallV.mk _ (hC _ _ _ (PCw.of hA)) (fun js hjs => ?_); subst hjs)); (try (conv => whnf))))
     refine Imms.mk [.sl 1 (p.map IV.str), .sl 1 (nw.map IV.str)] rfl ?_
     (try (conv => whnf)); (repeat ((first | refine qT ?_ | refine qF ?_ | refine qO ?_ | (with_reducible intro z hz); (first | (replace hz := hz (by omega); subst hz) | subst hz) | (refine CallV.mk _ (hC _ _ _ (PCw.of hF)) (fun js hjs => ?_); subst hjs)); (try (conv => whnf))))
     exact hfin _ (ILes.refl _)
   by_cases c4 : nth < 0
   · skip
     refine PC.of_va (T := tbx) eqs_ok tbf_ok rfl mixed Try.func7 rfl rfl (Nat.le_of_ble_eq_true rfl) ?_; intro Γ C WK LP fin h0 hW hC hB hR hLP hfin
     (try (conv => whnf)); (repeat ((first | refine qT ?_ | refine qF ?_ | refine qO ?_ | (with_reducible intro z hz); (first | (replace hz := hz (by omega); subst hz) | subst hz) | (refine CallV.mk _ (hC _ _ _ (PCw.of hA)) (fun js hjs => ?_); subst hjs)); (try (conv => whnf))))
     refine Imms.mk [.sl 1 (p.map IV.str), .sl 1 (nw.map IV.str)] rfl ?_
     (try (conv => whnf)); (repeat ((first | refine qT ?_ | refine qF ?_ | refine qO ?_ | (with_reducible intro z hz); (first | (replace hz := hz (by omega); subst hz) | subst hz) | (refine CallV.mk _ (hC _ _ _ (PCw.of hF)) (fun js hjs => ?_); subst hjs)); (try (conv => whnf))))
     exact hfin _ (ILes.refl _)
   have p0 : 0 < p.length := by omega
   have n0 : 0 < nw.length := by omega
   have t0 : 0 ≤ nth := by omega
   have hS := strings_pc w (by omega)
   have h4 := replace_pc w p nw nth 7 1 (by omega) (by omega) (by omega)
   have h5 := insert_pc w p nw nth 7 1 (by omega) (by omega) (by omega)
   have h6 := sreplace_pc (txts w) p nw nth (by rw [txts_len]; omega) (by omega) p0 (by omega) t0
   have h7 := sinsert_pc (txts w) p nw nth (by rw [txts_len]; omega) (by omega) p0 (by omega) t0
   rw [show repA w p nw nth 7 1 = _ from doA_eq (b := false) p0 n0 t0] at h4
   rw [show insW w p nw nth 7 1 = _ from doA_eq (b := true) p0 n0 t0] at h5
   have hok := ok_occs (w := w) p0 nth
   have hat : ∀ t ∈ chs (occs (txts w) p) nth, atB (txts w) p t = true := fun t ht => by
     have := chs_in t ht
     rw [occs_F p0] at this
     exact occF_at p0 _ 0 (Nat.le_refl _) t this
   generalize chs (occs (txts w) p) nth = K at h4 h5 h6 h7 hok hat
   have x1 := txts_spl (w := w) (P := p.length) (nw := nw) K 0 0
   have x2 := txts_spl2 (w := w) (p := p) (nw := nw) K 0 0 hok hat
   rw [show K.map (zOf false p.length) = K from List.map_id' _, show drOf false p.length = p.length from rfl] at h4
   rw [show K.map (zOf true p.length) = K.map (· + p.length) from rfl, show drOf true p.length = 0 from rfl] at h5
   by_cases c7 : K.length = 0
   · rw [if_pos c7] at h4 h5
     unfold out2 at h4 h5
     generalize rwS (txts w) p.length nw 0 K = X at h6
     generalize rwS (txts w) p.length (p ++ nw) 0 K = Y at h7
     refine PC.of_va (T := tbx) eqs_ok tbf_ok rfl mixed Try.func7 rfl rfl (Nat.le_of_ble_eq_true rfl) ?_; intro Γ C WK LP fin h0 hW hC hB hR hLP hfin
     (try (conv => whnf)); (repeat ((first | refine qT ?_ | refine qF ?_ | refine qO ?_ | (with_reducible intro z hz); (first | (replace hz := hz (by omega); subst hz) | subst hz) | (refine CallV.mk _ (hC _ _ _ (PCw.of hA)) (fun js hjs => ?_); subst hjs)); (try (conv => whnf))))
     refine Imms.mk [.sl 1 (p.map IV.str), .sl 1 (nw.map IV.str)] rfl ?_
     (try (conv => whnf)); (repeat ((first | refine qT ?_ | refine qF ?_ | refine qO ?_ | (with_reducible intro z hz); (first | (replace hz := hz (by omega); subst hz) | subst hz) | (refine CallV.mk _ (hC _ _ _ (PCw.of hF)) (fun js hjs => ?_); subst hjs) | (refine CallV.mk _ (hC _ _ _ (PCw.of hS)) (fun js hjs => ?_); subst hjs) | (refine CallV.mk _ (hC _ _ _ (PCw.of h4)) (fun js hjs => ?_); subst hjs) | (refine CallV.mk _ (hC _ _ _ (PCw.of h5)) (fun js hjs => ?_); subst hjs) | (refine CallV.mk _ (hC _ _ _ (PCw.of h6)) (fun js hjs => ?_); subst hjs) | (refine CallV.mk _ (hC _ _ _ (PCw.of h7)) (fun js hjs => ?_); subst hjs)); (try (conv => whnf))))
     exact hfin _ (ILes.refl _)
   rw [if_neg c7] at h4 h5
   generalize rwS (txts w) p.length nw 0 K = X at h6 x1
   generalize rwS (txts w) p.length (p ++ nw) 0 K = Y at h7 x2
   generalize spl w p.length nw 7 1 0 0 K = S1 at h4 x1
   generalize spl w 0 nw 7 1 0 0 (K.map (· + p.length)) = S2 at h5 x2
   have l1 : X.length = S1.length := by rw [← x1, txts_len]
   have l2 : Y.length = S2.length := by rw [← x2, txts_len]
   have hXz : (X.map IV.str).length = X.length := List.length_map _
   have hYz : (Y.map IV.str).length = Y.length := List.length_map _
   by_cases c5 : 256 < S1.length
   · by_cases c6 : 256 < S2.length
     · skip
       have e1 : heldW S1 = ([], 6) := by unfold heldW; rw [if_pos c5]
       have e2 : heldW S2 = ([], 6) := by unfold heldW; rw [if_pos c6]
       rw [e1] at h4
       rw [e2] at h5
       unfold out2 at h4 h5
       refine PC.of_va (T := tbx) eqs_ok tbf_ok rfl mixed Try.func7 rfl rfl (Nat.le_of_ble_eq_true rfl) ?_; intro Γ C WK LP fin h0 hW hC hB hR hLP hfin
       (try (conv => whnf)); (repeat ((first | refine qT ?_ | refine qF ?_ | refine qO ?_ | (with_reducible intro z hz); (first | (replace hz := hz (by omega); subst hz) | subst hz) | (refine CallV.mk _ (hC _ _ _ (PCw.of hA)) (fun js hjs => ?_); subst hjs)); (try (conv => whnf))))
       refine Imms.mk [.sl 1 (p.map IV.str), .sl 1 (nw.map IV.str)] rfl ?_
       (try (conv => whnf)); (repeat ((first | refine qT ?_ | refine qF ?_ | refine qO ?_ | (with_reducible intro z hz); (first | (replace hz := hz (by omega); subst hz) | subst hz) | (refine CallV.mk _ (hC _ _ _ (PCw.of hF)) (fun js hjs => ?_); subst hjs) | (refine CallV.mk _ (hC _ _ _ (PCw.of hS)) (fun js hjs => ?_); subst hjs) | (refine CallV.mk _ (hC _ _ _ (PCw.of h4)) (fun js hjs => ?_); subst hjs) | (refine CallV.mk _ (hC _ _ _ (PCw.of h5)) (fun js hjs => ?_); subst hjs) | (refine CallV.mk _ (hC _ _ _ (PCw.of h6)) (fun js hjs => ?_); subst hjs) | (refine CallV.mk _ (hC _ _ _ (PCw.of h7)) (fun js hjs => ?_); subst hjs)); (try (conv => whnf))))
       exact hfin _ (ILes.refl _)
     · have hs2 := strings_pc S2 (by omega)
       have hq2 := same4_pc (txts S2) Y (by rw [txts_len]; omega) (by omega)
       rw [decide_eq_true x2] at hq2
       have e1 : heldW S1 = ([], 6) := by unfold heldW; rw [if_pos c5]
       have e2 : heldW S2 = (S2, 0) := by unfold heldW; rw [if_neg c6]
       rw [e1] at h4
       rw [e2] at h5
       unfold out2 at h4 h5
       refine PC.of_va (T := tbx) eqs_ok tbf_ok rfl mixed Try.func7 rfl rfl (Nat.le_of_ble_eq_true rfl) ?_; intro Γ C WK LP fin h0 hW hC hB hR hLP hfin
       (try (conv => whnf)); (repeat ((first | refine qT ?_ | refine qF ?_ | refine qO ?_ | (with_reducible intro z hz); (first | (replace hz := hz (by omega); subst hz) | subst hz) | (refine CallV.mk _ (hC _ _ _ (PCw.of hA)) (fun js hjs => ?_); subst hjs)); (try (conv => whnf))))
       refine Imms.mk [.sl 1 (p.map IV.str), .sl 1 (nw.map IV.str)] rfl ?_
       (try (conv => whnf)); (repeat ((first | refine qT ?_ | refine qF ?_ | refine qO ?_ | (with_reducible intro z hz); (first | (replace hz := hz (by omega); subst hz) | subst hz) | (refine CallV.mk _ (hC _ _ _ (PCw.of hF)) (fun js hjs => ?_); subst hjs) | (refine CallV.mk _ (hC _ _ _ (PCw.of hS)) (fun js hjs => ?_); subst hjs) | (refine CallV.mk _ (hC _ _ _ (PCw.of h4)) (fun js hjs => ?_); subst hjs) | (refine CallV.mk _ (hC _ _ _ (PCw.of h5)) (fun js hjs => ?_); subst hjs) | (refine CallV.mk _ (hC _ _ _ (PCw.of h6)) (fun js hjs => ?_); subst hjs) | (refine CallV.mk _ (hC _ _ _ (PCw.of h7)) (fun js hjs => ?_); subst hjs) | (refine CallV.mk _ (hC _ _ _ (PCw.of hs2)) (fun js hjs => ?_); subst hjs) | (refine CallV.mk _ (hC _ _ _ (PCw.of hq2)) (fun js hjs => ?_); subst hjs)); (try (conv => whnf))))
       exact hfin _ (ILes.refl _)
   · have hs1 := strings_pc S1 (by omega)
     have hq1 := same4_pc (txts S1) X (by rw [txts_len]; omega) (by omega)
     rw [decide_eq_true x1] at hq1
     by_cases c6 : 256 < S2.length
     · skip
       have e1 : heldW S1 = (S1, 0) := by unfold heldW; rw [if_neg c5]
       have e2 : heldW S2 = ([], 6) := by unfold heldW; rw [if_pos c6]
       rw [e1] at h4
       rw [e2] at h5
       unfold out2 at h4 h5
       refine PC.of_va (T := tbx) eqs_ok tbf_ok rfl mixed Try.func7 rfl rfl (Nat.le_of_ble_eq_true rfl) ?_; intro Γ C WK LP fin h0 hW hC hB hR hLP hfin
       (try (conv => whnf)); (repeat ((first | refine qT ?_ | refine qF ?_ | refine qO ?_ | (with_reducible intro z hz); (first | (replace hz := hz (by omega); subst hz) | subst hz) | (refine CallV.mk _ (hC _ _ _ (PCw.of hA)) (fun js hjs => ?_); subst hjs)); (try (conv => whnf))))
       refine Imms.mk [.sl 1 (p.map IV.str), .sl 1 (nw.map IV.str)] rfl ?_
       (try (conv => whnf)); (repeat ((first | refine qT ?_ | refine qF ?_ | refine qO ?_ | (with_reducible intro z hz); (first | (replace hz := hz (by omega); subst hz) | subst hz) | (refine CallV.mk _ (hC _ _ _ (PCw.of hF)) (fun js hjs => ?_); subst hjs) | (refine CallV.mk _ (hC _ _ _ (PCw.of hS)) (fun js hjs => ?_); subst hjs) | (refine CallV.mk _ (hC _ _ _ (PCw.of h4)) (fun js hjs => ?_); subst hjs) | (refine CallV.mk _ (hC _ _ _ (PCw.of h5)) (fun js hjs => ?_); subst hjs) | (refine CallV.mk _ (hC _ _ _ (PCw.of h6)) (fun js hjs => ?_); subst hjs) | (refine CallV.mk _ (hC _ _ _ (PCw.of h7)) (fun js hjs => ?_); subst hjs) | (refine CallV.mk _ (hC _ _ _ (PCw.of hs1)) (fun js hjs => ?_); subst hjs) | (refine CallV.mk _ (hC _ _ _ (PCw.of hq1)) (fun js hjs => ?_); subst hjs)); (try (conv => whnf))))
       exact hfin _ (ILes.refl _)
     · have hs2 := strings_pc S2 (by omega)
       have hq2 := same4_pc (txts S2) Y (by rw [txts_len]; omega) (by omega)
       rw [decide_eq_true x2] at hq2
       have e1 : heldW S1 = (S1, 0) := by unfold heldW; rw [if_neg c5]
       have e2 : heldW S2 = (S2, 0) := by unfold heldW; rw [if_neg c6]
       rw [e1] at h4
       rw [e2] at h5
       unfold out2 at h4 h5
       refine PC.of_va (T := tbx) eqs_ok tbf_ok rfl mixed Try.func7 rfl rfl (Nat.le_of_ble_eq_true rfl) ?_; intro Γ C WK LP fin h0 hW hC hB hR hLP hfin
       (try (conv => whnf)); (repeat ((first | refine qT ?_ | refine qF ?_ | refine qO ?_ | (with_reducible intro z hz); (first | (replace hz := hz (by omega); subst hz) | subst hz) | (refine CallV.mk _ (hC _ _ _ (PCw.of hA)) (fun js hjs => ?_); subst hjs)); (try (conv => whnf))))
       refine Imms.mk [.sl 1 (p.map IV.str), .sl 1 (nw.map IV.str)] rfl ?_
       (try (conv => whnf)); (repeat ((first | refine qT ?_ | refine qF ?_ | refine qO ?_ | (with_reducible intro z hz); (first | (replace hz := hz (by omega); subst hz) | subst hz) | (refine CallV.mk _ (hC _ _ _ (PCw.of hF)) (fun js hjs => ?_); subst hjs) | (refine CallV.mk _ (hC _ _ _ (PCw.of hS)) (fun js hjs => ?_); subst hjs) | (refine CallV.mk _ (hC _ _ _ (PCw.of h4)) (fun js hjs => ?_); subst hjs) | (refine CallV.mk _ (hC _ _ _ (PCw.of h5)) (fun js hjs => ?_); subst hjs) | (refine CallV.mk _ (hC _ _ _ (PCw.of h6)) (fun js hjs => ?_); subst hjs) | (refine CallV.mk _ (hC _ _ _ (PCw.of h7)) (fun js hjs => ?_); subst hjs) | (refine CallV.mk _ (hC _ _ _ (PCw.of hs1)) (fun js hjs => ?_); subst hjs) | (refine CallV.mk _ (hC _ _ _ (PCw.of hq1)) (fun js hjs => ?_); subst hjs) | (refine CallV.mk _ (hC _ _ _ (PCw.of hs2)) (fun js hjs => ?_); subst hjs) | (refine CallV.mk _ (hC _ _ _ (PCw.of hq2)) (fun js hjs => ?_); subst hjs)); (try (conv => whnf))))
       exact hfin _ (ILes.refl _)
theorem stringsL (w : List Wd) (hw : w.length ≤ 9223372036854775807) (p : List Str) (hp : p.length ≤ 9223372036854775807) (nw : List Str) (hn : nw.length ≤ 9223372036854775807) (nth : Int) : PC Try.prog env0 7 [.sl 4 (w.map wdv), .sl 1 (p.map IV.str), .sl 1 (nw.map IV.str), .int .i64 nth] [.bool true] := lawStrings w p nw nth hw hp hn
end Go.Proofs.Ytcgdanbmgeoneaa.Pw
