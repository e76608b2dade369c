/-
  The law of occurrences that are edited one at a time.
-/
import Derived.Test.YtcgdanbmgeoneaaWWq
namespace Go.Proofs.Ytcgdanbmgeoneaa.Pw
open Go Go.Pv Go.RowKit Go.Proofs.Ytcgdanbmgeoneaa.Pu Go.Proofs.Ytcgdanbmgeoneaa.Pb
set_option linter.unusedSimpArgs false
open Lab Lcs Go.Proofs.Ytcgdanbmgeoneaa
set_option maxRecDepth 10000
set_option maxHeartbeats 16000000
theorem count_pc (l p : List Str) (hl : l.length ≤ 100000) (hpl : p.length ≤ 100000) : PC Try.prog env0 33 [.sl 1 (l.map IV.str), .sl 1 (p.map IV.str)] [.int .i64 (((zs (occs l p)).length : Nat) : Int)] := by
 have hFA := findAll4_pc l p hl hpl
 generalize occs l p = O at hFA ⊢
 refine PC.of_va (T := tbx) eqs_ok tbf_ok rfl mixed Try.func33 rfl rfl (Nat.le_of_ble_eq_true rfl) ?_; intro Γ C WK LP fin h0 hW hC hB hR hLP hfin
 (try (conv => whnf)); (repeat ((first | refine qT ?_ | refine qF ?_ | refine qO ?_ | (with_reducible intro z hz); (first | (replace hz := hz (by omega); subst hz) | subst hz) | (refine CallV.mk _ (hC _ _ _ (PCw.of hFA)) (fun js hjs => ?_); subst hjs)); (try (conv => whnf))))
 exact hfin _ (ILes.refl _)
theorem lawOccur (w : List Wd) (p nw : List Str) (b : Bool) (hw : w.length ≤ 9223372036854775807) (hp : p.length ≤ 9223372036854775807) (hn : nw.length ≤ 9223372036854775807) : PC Try.prog env0 9 [.sl 4 (w.map wdv), .sl 1 (p.map IV.str), .sl 1 (nw.map IV.str), .bool b] [.bool true] := by
 have hA := awake_pc
 have hF := few2_pc w p nw hw hp hn
 have hwz : (w.map wdv).length = w.length := List.length_map _
 have hpz : (p.map IV.str).length = p.length := List.length_map _
 have hnz : (nw.map IV.str).length = nw.length := List.length_map _
 cases hf : fewW w [p, nw] with
 | false =>
   rw [hf] at hF
   refine PC.of_va (T := tbx) eqs_ok tbf_ok rfl mixed Try.func9 rfl rfl (Nat.le_of_ble_eq_true rfl) ?_; intro Γ C WK LP fin h0 hW hC hB hR hLP hfin
   (try (conv => whnf)); (repeat ((first | refine qT ?_ | refine qF ?_ | refine qO ?_ | (with_reducible intro z hz); (first | (replace hz := hz (by omega); subst hz) | subst hz) | (refine CallV.mk _ (hC _ _ _ (PCw.of hA)) (fun js hjs => ?_); subst hjs)); (try (conv => whnf))))
   refine Imms.mk [.sl 1 (p.map IV.str), .sl 1 (nw.map IV.str)] rfl ?_
   (try (conv => whnf)); (repeat ((first | refine qT ?_ | refine qF ?_ | refine qO ?_ | (with_reducible intro z hz); (first | (replace hz := hz (by omega); subst hz) | subst hz) | (refine CallV.mk _ (hC _ _ _ (PCw.of hF)) (fun js hjs => ?_); subst hjs)); (try (conv => whnf))))
   exact hfin _ (ILes.refl _)
 | true =>
   rw [hf] at hF
   obtain ⟨h1, h2, h3⟩ := fewW_facts hf
   by_cases c1 : 60 < w.length
   · skip
     refine PC.of_va (T := tbx) eqs_ok tbf_ok rfl mixed Try.func9 rfl rfl (Nat.le_of_ble_eq_true rfl) ?_; intro Γ C WK LP fin h0 hW hC hB hR hLP hfin
     (try (conv => whnf)); (repeat ((first | refine qT ?_ | refine qF ?_ | refine qO ?_ | (with_reducible intro z hz); (first | (replace hz := hz (by omega); subst hz) | subst hz) | (refine CallV.mk _ (hC _ _ _ (PCw.of hA)) (fun js hjs => ?_); subst hjs)); (try (conv => whnf))))
     refine Imms.mk [.sl 1 (p.map IV.str), .sl 1 (nw.map IV.str)] rfl ?_
     (try (conv => whnf)); (repeat ((first | refine qT ?_ | refine qF ?_ | refine qO ?_ | (with_reducible intro z hz); (first | (replace hz := hz (by omega); subst hz) | subst hz) | (refine CallV.mk _ (hC _ _ _ (PCw.of hF)) (fun js hjs => ?_); subst hjs)); (try (conv => whnf))))
     exact hfin _ (ILes.refl _)
   by_cases c2 : p.length = 0
   · skip
     refine PC.of_va (T := tbx) eqs_ok tbf_ok rfl mixed Try.func9 rfl rfl (Nat.le_of_ble_eq_true rfl) ?_; intro Γ C WK LP fin h0 hW hC hB hR hLP hfin
     (try (conv => whnf)); (repeat ((first | refine qT ?_ | refine qF ?_ | refine qO ?_ | (with_reducible intro z hz); (first | (replace hz := hz (by omega); subst hz) | subst hz) | (refine CallV.mk _ (hC _ _ _ (PCw.of hA)) (fun js hjs => ?_); subst hjs)); (try (conv => whnf))))
     refine Imms.mk [.sl 1 (p.map IV.str), .sl 1 (nw.map IV.str)] rfl ?_
     (try (conv => whnf)); (repeat ((first | refine qT ?_ | refine qF ?_ | refine qO ?_ | (with_reducible intro z hz); (first | (replace hz := hz (by omega); subst hz) | subst hz) | (refine CallV.mk _ (hC _ _ _ (PCw.of hF)) (fun js hjs => ?_); subst hjs)); (try (conv => whnf))))
     exact hfin _ (ILes.refl _)
   by_cases c3 : nw.length = 0
   · skip
     refine PC.of_va (T := tbx) eqs_ok tbf_ok rfl mixed Try.func9 rfl rfl (Nat.le_of_ble_eq_true rfl) ?_; intro Γ C WK LP fin h0 hW hC hB hR hLP hfin
     (try (conv => whnf)); (repeat ((first | refine qT ?_ | refine qF ?_ | refine qO ?_ | (with_reducible intro z hz); (first | (replace hz := hz (by omega); subst hz) | subst hz) | (refine CallV.mk _ (hC _ _ _ (PCw.of hA)) (fun js hjs => ?_); subst hjs)); (try (conv => whnf))))
     refine Imms.mk [.sl 1 (p.map IV.str), .sl 1 (nw.map IV.str)] rfl ?_
     (try (conv => whnf)); (repeat ((first | refine qT ?_ | refine qF ?_ | refine qO ?_ | (with_reducible intro z hz); (first | (replace hz := hz (by omega); subst hz) | subst hz) | (refine CallV.mk _ (hC _ _ _ (PCw.of hF)) (fun js hjs => ?_); subst hjs)); (try (conv => whnf))))
     exact hfin _ (ILes.refl _)
   by_cases c4 : 3 < nw.length
   · skip
     refine PC.of_va (T := tbx) eqs_ok tbf_ok rfl mixed Try.func9 rfl rfl (Nat.le_of_ble_eq_true rfl) ?_; intro Γ C WK LP fin h0 hW hC hB hR hLP hfin
     (try (conv => whnf)); (repeat ((first | refine qT ?_ | refine qF ?_ | refine qO ?_ | (with_reducible intro z hz); (first | (replace hz := hz (by omega); subst hz) | subst hz) | (refine CallV.mk _ (hC _ _ _ (PCw.of hA)) (fun js hjs => ?_); subst hjs)); (try (conv => whnf))))
     refine Imms.mk [.sl 1 (p.map IV.str), .sl 1 (nw.map IV.str)] rfl ?_
     (try (conv => whnf)); (repeat ((first | refine qT ?_ | refine qF ?_ | refine qO ?_ | (with_reducible intro z hz); (first | (replace hz := hz (by omega); subst hz) | subst hz) | (refine CallV.mk _ (hC _ _ _ (PCw.of hF)) (fun js hjs => ?_); subst hjs)); (try (conv => whnf))))
     exact hfin _ (ILes.refl _)
   have p0 : 0 < p.length := by omega
   have n0 : 0 < nw.length := by omega
   have n3 : nw.length ≤ 3 := by omega
   have w60 : w.length ≤ 60 := by omega
   have hS := strings_pc w (by omega)
   have hCo := count_pc (txts w) p (by rw [txts_len]; omega) (by omega)
   rw [zs_len] at hCo
   have hol := occs_len (txts w) p
   rw [txts_len] at hol
   have hin := inv_init b (p := p) (nw := nw) w60
   have hst : ∀ (k : Nat) (one : List Wd), InvO b w p nw (k + 1) one → ∃ T, doA b one p nw (((k + 1 : Nat) : Int)) = (T, 0) ∧ InvO b w p nw k T := fun k one h => inv_step p0 n0 n3 w60 h
   have hdn : ∀ one : List Wd, InvO b w p nw 0 one → txts one = txts (spl w (drOf b p.length) nw 7 1 0 0 ((occs (txts w) p).map (zOf b p.length))) := fun one h => inv_done h
   have hlo : ∀ (k : Nat) (one : List Wd), InvO b w p nw k one → one.length ≤ 1000 ∧ k ≤ (occs (txts w) p).length := fun k one h => ⟨by have := h.2.1; omega, h.1⟩
   have hms := do_miss (b := b) (w := w) (p := p) (nw := nw) p0 n0
   by_cases hz : (occs (txts w) p).length = 0
   · have hal := do_none (b := b) (w := w) (p := p) (nw := nw) p0 n0 hz
     generalize InvO b w p nw = J at *
     generalize occs (txts w) p = O at *
     cases b with
     | false =>
       have hD0 := replace_pc w p nw 0 7 1 (by omega) (by omega) (by omega)
       rw [show repA w p nw 0 7 1 = ([], 4) from hal] at hD0
       have hD1 := replace_pc w p nw ((O.length : Int) + 1) 7 1 (by omega) (by omega) (by omega)
       rw [show repA w p nw ((O.length : Int) + 1) 7 1 = ([], 4) from hms] at hD1
       unfold out2 at hD0 hD1
       refine PC.of_va (T := tbx) eqs_ok tbf_ok rfl mixed Try.func9 rfl rfl (Nat.le_of_ble_eq_true rfl) ?_; intro Γ C WK LP fin h0 hW hC hB hR hLP hfin
       (try (conv => whnf)); (repeat ((first | refine qT ?_ | refine qF ?_ | refine qO ?_ | (with_reducible intro z hz); (first | (replace hz := hz (by omega); subst hz) | subst hz) | (refine CallV.mk _ (hC _ _ _ (PCw.of hA)) (fun js hjs => ?_); subst hjs)); (try (conv => whnf))))
       refine Imms.mk [.sl 1 (p.map IV.str), .sl 1 (nw.map IV.str)] rfl ?_
       (try (conv => whnf)); (repeat ((first | refine qT ?_ | refine qF ?_ | refine qO ?_ | (with_reducible intro z hz); (first | (replace hz := hz (by omega); subst hz) | subst hz) | (refine CallV.mk _ (hC _ _ _ (PCw.of hF)) (fun js hjs => ?_); subst hjs) | (refine CallV.mk _ (hC _ _ _ (PCw.of hS)) (fun js hjs => ?_); subst hjs) | (refine CallV.mk _ (hC _ _ _ (PCw.of hCo)) (fun js hjs => ?_); subst hjs) | (refine CallV.mk _ (hC _ _ _ (PCw.of hD0)) (fun js hjs => ?_); subst hjs) | (refine CallV.mk _ (hC _ _ _ (PCw.of hD1)) (fun js hjs => ?_); subst hjs)); (try (conv => whnf))))
       refine hLP _ _ _ (Nat × List Wd) (fun q => ⟨[(1, .imm (.sl 1 (p.map IV.str))), (2, .imm (.sl 1 (nw.map IV.str))), (10, .imm (.fn 26)), (11, .imm (.sl 4 (([] : List Wd).map wdv))), (12, .imm (.int .i64 4)), (15, .imm (.sl 4 (q.2.map wdv))), (16, .imm (.int .i64 (q.1 : Nat)))], []⟩) (fun q => J q.1 q.2) (fun q => q.1) (O.length, w) hin (qSL 0 rfl rfl) ?_
       rintro ⟨k, one⟩ hJ
       dsimp only at hJ ⊢
       have hlk := hlo k one hJ
       cases k with
       | zero =>
         (try (conv => whnf)); (repeat ((first | refine qT ?_ | refine qF ?_ | refine qO ?_ | (with_reducible intro z hz); (first | (replace hz := hz (by omega); subst hz) | subst hz)); (try (conv => whnf))))
         exact hfin _ (ILes.refl _)
       | succ k =>
         exact absurd hlk.2 (by omega)
     | true =>
       have hD0 := insert_pc w p nw 0 7 1 (by omega) (by omega) (by omega)
       rw [show insW w p nw 0 7 1 = ([], 4) from hal] at hD0
       have hD1 := insert_pc w p nw ((O.length : Int) + 1) 7 1 (by omega) (by omega) (by omega)
       rw [show insW w p nw ((O.length : Int) + 1) 7 1 = ([], 4) from hms] at hD1
       unfold out2 at hD0 hD1
       refine PC.of_va (T := tbx) eqs_ok tbf_ok rfl mixed Try.func9 rfl rfl (Nat.le_of_ble_eq_true rfl) ?_; intro Γ C WK LP fin h0 hW hC hB hR hLP hfin
       (try (conv => whnf)); (repeat ((first | refine qT ?_ | refine qF ?_ | refine qO ?_ | (with_reducible intro z hz); (first | (replace hz := hz (by omega); subst hz) | subst hz) | (refine CallV.mk _ (hC _ _ _ (PCw.of hA)) (fun js hjs => ?_); subst hjs)); (try (conv => whnf))))
       refine Imms.mk [.sl 1 (p.map IV.str), .sl 1 (nw.map IV.str)] rfl ?_
       (try (conv => whnf)); (repeat ((first | refine qT ?_ | refine qF ?_ | refine qO ?_ | (with_reducible intro z hz); (first | (replace hz := hz (by omega); subst hz) | subst hz) | (refine CallV.mk _ (hC _ _ _ (PCw.of hF)) (fun js hjs => ?_); subst hjs) | (refine CallV.mk _ (hC _ _ _ (PCw.of hS)) (fun js hjs => ?_); subst hjs) | (refine CallV.mk _ (hC _ _ _ (PCw.of hCo)) (fun js hjs => ?_); subst hjs) | (refine CallV.mk _ (hC _ _ _ (PCw.of hD0)) (fun js hjs => ?_); subst hjs) | (refine CallV.mk _ (hC _ _ _ (PCw.of hD1)) (fun js hjs => ?_); subst hjs)); (try (conv => whnf))))
       refine hLP _ _ _ (Nat × List Wd) (fun q => ⟨[(1, .imm (.sl 1 (p.map IV.str))), (2, .imm (.sl 1 (nw.map IV.str))), (10, .imm (.fn 28)), (11, .imm (.sl 4 (([] : List Wd).map wdv))), (12, .imm (.int .i64 4)), (15, .imm (.sl 4 (q.2.map wdv))), (16, .imm (.int .i64 (q.1 : Nat)))], []⟩) (fun q => J q.1 q.2) (fun q => q.1) (O.length, w) hin (qSL 0 rfl rfl) ?_
       rintro ⟨k, one⟩ hJ
       dsimp only at hJ ⊢
       have hlk := hlo k one hJ
       cases k with
       | zero =>
         (try (conv => whnf)); (repeat ((first | refine qT ?_ | refine qF ?_ | refine qO ?_ | (with_reducible intro z hz); (first | (replace hz := hz (by omega); subst hz) | subst hz)); (try (conv => whnf))))
         exact hfin _ (ILes.refl _)
       | succ k =>
         exact absurd hlk.2 (by omega)
   · obtain ⟨hal, hal2⟩ := do_all (b := b) (w := w) (p := p) (nw := nw) p0 n0 n3 w60 hz
     generalize spl w (drOf b p.length) nw 7 1 0 0 ((occs (txts w) p).map (zOf b p.length)) = U at hal hal2 hdn
     generalize InvO b w p nw = J at *
     generalize occs (txts w) p = O at *
     cases b with
     | false =>
       have hD0 := replace_pc w p nw 0 7 1 (by omega) (by omega) (by omega)
       rw [show repA w p nw 0 7 1 = (U, 0) from hal] at hD0
       have hD1 := replace_pc w p nw ((O.length : Int) + 1) 7 1 (by omega) (by omega) (by omega)
       rw [show repA w p nw ((O.length : Int) + 1) 7 1 = ([], 4) from hms] at hD1
       unfold out2 at hD0 hD1
       refine PC.of_va (T := tbx) eqs_ok tbf_ok rfl mixed Try.func9 rfl rfl (Nat.le_of_ble_eq_true rfl) ?_; intro Γ C WK LP fin h0 hW hC hB hR hLP hfin
       (try (conv => whnf)); (repeat ((first | refine qT ?_ | refine qF ?_ | refine qO ?_ | (with_reducible intro z hz); (first | (replace hz := hz (by omega); subst hz) | subst hz) | (refine CallV.mk _ (hC _ _ _ (PCw.of hA)) (fun js hjs => ?_); subst hjs)); (try (conv => whnf))))
       refine Imms.mk [.sl 1 (p.map IV.str), .sl 1 (nw.map IV.str)] rfl ?_
       (try (conv => whnf)); (repeat ((first | refine qT ?_ | refine qF ?_ | refine qO ?_ | (with_reducible intro z hz); (first | (replace hz := hz (by omega); subst hz) | subst hz) | (refine CallV.mk _ (hC _ _ _ (PCw.of hF)) (fun js hjs => ?_); subst hjs) | (refine CallV.mk _ (hC _ _ _ (PCw.of hS)) (fun js hjs => ?_); subst hjs) | (refine CallV.mk _ (hC _ _ _ (PCw.of hCo)) (fun js hjs => ?_); subst hjs) | (refine CallV.mk _ (hC _ _ _ (PCw.of hD0)) (fun js hjs => ?_); subst hjs) | (refine CallV.mk _ (hC _ _ _ (PCw.of hD1)) (fun js hjs => ?_); subst hjs)); (try (conv => whnf))))
       refine hLP _ _ _ (Nat × List Wd) (fun q => ⟨[(1, .imm (.sl 1 (p.map IV.str))), (2, .imm (.sl 1 (nw.map IV.str))), (10, .imm (.fn 26)), (11, .imm (.sl 4 (U.map wdv))), (12, .imm (.int .i64 0)), (15, .imm (.sl 4 (q.2.map wdv))), (16, .imm (.int .i64 (q.1 : Nat)))], []⟩) (fun q => J q.1 q.2) (fun q => q.1) (O.length, w) hin (qSL 0 rfl rfl) ?_
       rintro ⟨k, one⟩ hJ
       dsimp only at hJ ⊢
       have hlk := hlo k one hJ
       cases k with
       | zero =>
         have hSo := strings_pc one (by omega)
         have hSa := strings_pc U (by omega)
         have hEq := same4_pc (txts one) (txts U) (by rw [txts_len]; omega) (by rw [txts_len]; omega)
         rw [decide_eq_true (hdn one hJ)] at hEq
         (try (conv => whnf)); (repeat ((first | refine qT ?_ | refine qF ?_ | refine qO ?_ | (with_reducible intro z hz); (first | (replace hz := hz (by omega); subst hz) | subst hz) | (refine CallV.mk _ (hC _ _ _ (PCw.of hSo)) (fun js hjs => ?_); subst hjs) | (refine CallV.mk _ (hC _ _ _ (PCw.of hSa)) (fun js hjs => ?_); subst hjs) | (refine CallV.mk _ (hC _ _ _ (PCw.of hEq)) (fun js hjs => ?_); subst hjs)); (try (conv => whnf))))
         exact hfin _ (ILes.refl _)
       | succ k =>
         obtain ⟨T, hT, hJ2⟩ := hst k one hJ
         have hD2 := replace_pc one p nw (((k + 1 : Nat) : Int)) 7 1 (by omega) (by omega) (by omega)
         rw [show repA one p nw (((k + 1 : Nat) : Int)) 7 1 = (T, 0) from hT] at hD2
         unfold out2 at hD2
         (try (conv => whnf)); (repeat ((first | refine qT ?_ | refine qF ?_ | refine qO ?_ | (with_reducible intro z hz); (first | (replace hz := hz (by omega); subst hz) | subst hz) | (refine CallV.mk _ (hC _ _ _ (PCw.of hD2)) (fun js hjs => ?_); subst hjs)); (try (conv => whnf))))
         exact ⟨(k, T), hJ2, by dsimp only; omega, (qSL 0 rfl rfl)⟩
     | true =>
       have hD0 := insert_pc w p nw 0 7 1 (by omega) (by omega) (by omega)
       rw [show insW w p nw 0 7 1 = (U, 0) from hal] at hD0
       have hD1 := insert_pc w p nw ((O.length : Int) + 1) 7 1 (by omega) (by omega) (by omega)
       rw [show insW w p nw ((O.length : Int) + 1) 7 1 = ([], 4) from hms] at hD1
       unfold out2 at hD0 hD1
       refine PC.of_va (T := tbx) eqs_ok tbf_ok rfl mixed Try.func9 rfl rfl (Nat.le_of_ble_eq_true rfl) ?_; intro Γ C WK LP fin h0 hW hC hB hR hLP hfin
       (try (conv => whnf)); (repeat ((first | refine qT ?_ | refine qF ?_ | refine qO ?_ | (with_reducible intro z hz); (first | (replace hz := hz (by omega); subst hz) | subst hz) | (refine CallV.mk _ (hC _ _ _ (PCw.of hA)) (fun js hjs => ?_); subst hjs)); (try (conv => whnf))))
       refine Imms.mk [.sl 1 (p.map IV.str), .sl 1 (nw.map IV.str)] rfl ?_
       (try (conv => whnf)); (repeat ((first | refine qT ?_ | refine qF ?_ | refine qO ?_ | (with_reducible intro z hz); (first | (replace hz := hz (by omega); subst hz) | subst hz) | (refine CallV.mk _ (hC _ _ _ (PCw.of hF)) (fun js hjs => ?_); subst hjs) | (refine CallV.mk _ (hC _ _ _ (PCw.of hS)) (fun js hjs => ?_); subst hjs) | (refine CallV.mk _ (hC _ _ _ (PCw.of hCo)) (fun js hjs => ?_); subst hjs) | (refine CallV.mk _ (hC _ _ _ (PCw.of hD0)) (fun js hjs => ?_); subst hjs) | (refine CallV.mk _ (hC _ _ _ (PCw.of hD1)) (fun js hjs => ?_); subst hjs)); (try (conv => whnf))))
       refine hLP _ _ _ (Nat × List Wd) (fun q => ⟨[(1, .imm (.sl 1 (p.map IV.str))), (2, .imm (.sl 1 (nw.map IV.str))), (10, .imm (.fn 28)), (11, .imm (.sl 4 (U.map wdv))), (12, .imm (.int .i64 0)), (15, .imm (.sl 4 (q.2.map wdv))), (16, .imm (.int .i64 (q.1 : Nat)))], []⟩) (fun q => J q.1 q.2) (fun q => q.1) (O.length, w) hin (qSL 0 rfl rfl) ?_
       rintro ⟨k, one⟩ hJ
       dsimp only at hJ ⊢
       have hlk := hlo k one hJ
       cases k with
       | zero =>
         have hSo := strings_pc one (by omega)
         have hSa := strings_pc U (by omega)
         have hEq := same4_pc (txts one) (txts U) (by rw [txts_len]; omega) (by rw [txts_len]; omega)
         rw [decide_eq_true (hdn one hJ)] at hEq
         (try (conv => whnf)); (repeat ((first | refine qT ?_ | refine qF ?_ | refine qO ?_ | (with_reducible intro z hz); (first | (replace hz := hz (by omega); subst hz) | subst hz) | (refine CallV.mk _ (hC _ _ _ (PCw.of hSo)) (fun js hjs => ?_); subst hjs) | (refine CallV.mk _ (hC _ _ _ (PCw.of hSa)) (fun js hjs => ?_); subst hjs) | (refine CallV.mk _ (hC _ _ _ (PCw.of hEq)) (fun js hjs => ?_); subst hjs)); (try (conv => whnf))))
         exact hfin _ (ILes.refl _)
       | succ k =>
         obtain ⟨T, hT, hJ2⟩ := hst k one hJ
         have hD2 := insert_pc one p nw (((k + 1 : Nat) : Int)) 7 1 (by omega) (by omega) (by omega)
         rw [show insW one p nw (((k + 1 : Nat) : Int)) 7 1 = (T, 0) from hT] at hD2
         unfold out2 at hD2
         (try (conv => whnf)); (repeat ((first | refine qT ?_ | refine qF ?_ | refine qO ?_ | (with_reducible intro z hz); (first | (replace hz := hz (by omega); subst hz) | subst hz) | (refine CallV.mk _ (hC _ _ _ (PCw.of hD2)) (fun js hjs => ?_); subst hjs)); (try (conv => whnf))))
         exact ⟨(k, T), hJ2, by dsimp only; omega, (qSL 0 rfl rfl)⟩
theorem occurL (w : List Wd) (hw : w.length ≤ 9223372036854775807) (p : List Str) (hp : p.length ≤ 9223372036854775807) (nw : List Str) (hn : nw.length ≤ 9223372036854775807) (b : Bool) : PC Try.prog env0 9 [.sl 4 (w.map wdv), .sl 1 (p.map IV.str), .sl 1 (nw.map IV.str), .bool b] [.bool true] := lawOccur w p nw b hw hp hn
end Go.Proofs.Ytcgdanbmgeoneaa.Pw
