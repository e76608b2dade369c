/-
  The law of marks that occur once.
-/
import Derived.Test.YtcgdanbmgeoneaaWWl
namespace Go.Proofs.Ytcgdanbmgeoneaa.Pw
open Go Go.Pv Go.RowKit Go.Proofs.Ytcgdanbmgeoneaa.Pu Go.Proofs.Ytcgdanbmgeoneaa.Pb
set_option linter.unusedSimpArgs false
open Lab Lcs Go.Proofs.Ytcgdanbmgeoneaa
set_option maxRecDepth 10000
set_option maxHeartbeats 16000000
theorem rmark2_pc (l : List Str) (a i f : Int) (hl : l.length ≤ 100000000) (hf : -1125899906842624 ≤ f ∧ f ≤ 1125899906842624) : PC Try.prog env0 19 [.sl 1 (l.map IV.str), .int .i64 a, .int .i64 i, .int .i64 f] [.sl 4 ((mkW a i f l).map wdv)] := by
 have hml : (l.map IV.str).length = l.length := List.length_map _
 refine PC.of_va (T := tbx) eqs_ok tbf_ok rfl mixed Try.func19 rfl rfl (Nat.le_of_ble_eq_true rfl) ?_; intro Γ C WK LP fin h0 hW hC hB hR hLP hfin
 (try (conv => whnf)); (repeat ((first | refine qT ?_ | refine qF ?_ | refine qO ?_ | (with_reducible intro z hz); (first | (replace hz := hz (by omega); subst hz) | subst hz)); (try (conv => whnf))))
 refine hLP _ _ _ Nat (fun k => ⟨[(0, .imm (.sl 1 (l.map IV.str))), (1, .imm (.int .i64 a)), (2, .imm (.int .i64 i)), (3, .imm (.int .i64 f)), (9, .row 0 1), (10, .imm (.int .i64 (k : Nat)))], [.row 59 4 1 (((mkW a i f (l.take k)).map wdv).map .imm)]⟩) (fun k => k ≤ l.length) (fun k => l.length - k) 0 (Nat.zero_le _) (((WeakA.row 0 (((mkW a i f (l.take 0)).map wdv).map .imm) rfl (by simp [mkW]))).trans (qSL 1 rfl rfl)) ?_
 intro k hk
 have hho := Nat.lt_or_ge k l.length
 cases hho with
 | inl hlt =>
   obtain ⟨s, hx⟩ : ∃ s, l[k]? = some s := ⟨l[k], List.getElem?_eq_getElem hlt⟩
   have hrl : (((mkW a i f (l.take k)).map wdv).map PV.imm).length = k := by rw [List.length_map, List.length_map, mkW_len, List.length_take]; omega
   have hrl2 : (mkW a i f (l.take k)).length = k := by rw [mkW_len, List.length_take]; omega
   (try (conv => whnf)); (repeat ((first | refine qT ?_ | refine qF ?_ | refine qO ?_ | (with_reducible intro z hz); (first | (replace hz := hz (by omega); subst hz) | subst hz)); (try (conv => whnf))))
   refine Idx.mk k (.str s) _ rfl (by simp [hx]) rfl ?_
   (try (conv => whnf)); (repeat ((first | refine qT ?_ | refine qF ?_ | refine qO ?_ | (with_reducible intro z hz); (first | (replace hz := hz (by omega); subst hz) | subst hz)); (try (conv => whnf))))
   exact ⟨k + 1, by omega, by dsimp only; omega, ((WeakA.row 0 (((mkW a i f (l.take (k + 1))).map wdv).map .imm) rfl (by rw [mkW_take hx]; simp [wdv]))).trans ((WeakA.renew 0 1 rfl (by first | omega | (intro _; rw [hk0 _ _ rfl]; exact Nat.le_of_ble_eq_true rfl)) (by repeat (first | exact trivial | refine And.intro (rgL_imms _ _ _ _) ?_ | refine And.intro rfl ?_))).trans (qSL 1 rfl rfl))⟩
 | inr hge =>
   (try (conv => whnf)); (repeat ((first | refine qT ?_ | refine qF ?_ | refine qO ?_ | (with_reducible intro z hz); (first | (replace hz := hz (by omega); subst hz) | subst hz)); (try (conv => whnf))))
   obtain rfl : k = l.length := by omega
   refine Imms.mk ((mkW a i f l).map wdv) (by rw [List.take_length]) ?_
   exact hfin _ (ILes.refl _)
theorem lawMarks (l p nw : List Str) (nth : Int) (hl : l.length ≤ 100000000) (hp : p.length ≤ 9223372036854775807) (hn : nw.length ≤ 9223372036854775807) : PC Try.prog env0 8 [.sl 1 (l.map IV.str), .sl 1 (p.map IV.str), .sl 1 (nw.map IV.str), .int .i64 nth] [.bool true] := by
 have hA := awake_pc
 have hM := rmark2_pc l 3 0 0 hl (by decide)
 have hw0 : (mkW 3 0 0 l).length = l.length := mkW_len _ _ _ _
 have hF := few2_pc (mkW 3 0 0 l) p nw (by omega) hp hn
 have hwz : ((mkW 3 0 0 l).map wdv).length = (mkW 3 0 0 l).length := List.length_map _
 cases hf : fewW (mkW 3 0 0 l) [p, nw] with
 | false =>
   rw [hf] at hF
   refine PC.of_va (T := tbx) eqs_ok tbf_ok rfl mixed Try.func8 rfl rfl (Nat.le_of_ble_eq_true rfl) ?_; intro Γ C WK LP fin h0 hW hC hB hR hLP hfin
   (try (conv => whnf)); (repeat ((first | refine qT ?_ | refine qF ?_ | refine qO ?_ | (with_reducible intro z hz); (first | (replace hz := hz (by omega); subst hz) | subst hz) | (refine CallV.mk _ (hC _ _ _ (PCw.of hA)) (fun js hjs => ?_); subst hjs) | (refine CallV.mk _ (hC _ _ _ (PCw.of hM)) (fun js hjs => ?_); subst hjs)); (try (conv => whnf))))
   refine Imms.mk [.sl 1 (p.map IV.str), .sl 1 (nw.map IV.str)] rfl ?_
   (try (conv => whnf)); (repeat ((first | refine qT ?_ | refine qF ?_ | refine qO ?_ | (with_reducible intro z hz); (first | (replace hz := hz (by omega); subst hz) | subst hz) | (refine CallV.mk _ (hC _ _ _ (PCw.of hF)) (fun js hjs => ?_); subst hjs)); (try (conv => whnf))))
   exact hfin _ (ILes.refl _)
 | true =>
   rw [hf] at hF
   obtain ⟨h1, h2, h3⟩ := fewW_facts hf
   have h4 := replace_pc (mkW 3 0 0 l) p nw nth 7 1 (by omega) (by omega) (by omega)
   have h5 := insert_pc (mkW 3 0 0 l) p nw nth 7 1 (by omega) (by omega) (by omega)
   have q1 := repA_len (mkW 3 0 0 l) p nw nth 7 1
   have q2 := insW_len (mkW 3 0 0 l) p nw nth 7 1
   have o1 := repA_once (l := l) (p := p) (nw := nw) (nth := nth)
   have o2 := insW_once (l := l) (p := p) (nw := nw) (nth := nth)
   generalize repA (mkW 3 0 0 l) p nw nth 7 1 = r1 at h4 q1 o1
   generalize insW (mkW 3 0 0 l) p nw nth 7 1 = r2 at h5 q2 o2
   obtain ⟨T, e⟩ := r1
   obtain ⟨U, f⟩ := r2
   dsimp only at q1 q2 o1 o2
   have hwl : (mkW 3 0 0 l).length ≤ 1000000000 := by omega
   generalize mkW 3 0 0 l = w at *
   have hTz : (T.map wdv).length = T.length := List.length_map _
   have hUz : (U.map wdv).length = U.length := List.length_map _
   by_cases h200 : 200 < w.length
   · refine PC.of_va (T := tbx) eqs_ok tbf_ok rfl mixed Try.func8 rfl rfl (Nat.le_of_ble_eq_true rfl) ?_; intro Γ C WK LP fin h0 hW hC hB hR hLP hfin
     (try (conv => whnf)); (repeat ((first | refine qT ?_ | refine qF ?_ | refine qO ?_ | (with_reducible intro z hz); (first | (replace hz := hz (by omega); subst hz) | subst hz) | (refine CallV.mk _ (hC _ _ _ (PCw.of hA)) (fun js hjs => ?_); subst hjs) | (refine CallV.mk _ (hC _ _ _ (PCw.of hM)) (fun js hjs => ?_); subst hjs)); (try (conv => whnf))))
     refine Imms.mk [.sl 1 (p.map IV.str), .sl 1 (nw.map IV.str)] rfl ?_
     (try (conv => whnf)); (repeat ((first | refine qT ?_ | refine qF ?_ | refine qO ?_ | (with_reducible intro z hz); (first | (replace hz := hz (by omega); subst hz) | subst hz) | (refine CallV.mk _ (hC _ _ _ (PCw.of hF)) (fun js hjs => ?_); subst hjs)); (try (conv => whnf))))
     exact hfin _ (ILes.refl _)
   by_cases he : e = 0
   · have h6 := once_pc w T hwl q1 (o1 he)
     by_cases hf2 : f = 0
     · obtain ⟨o3, o4⟩ := o2 hf2
       have h7 := once_pc w U hwl q2 o3
       refine PC.of_va (T := tbx) eqs_ok tbf_ok rfl mixed Try.func8 rfl rfl (Nat.le_of_ble_eq_true rfl) ?_; intro Γ C WK LP fin h0 hW hC hB hR hLP hfin
       (try (conv => whnf)); (repeat ((first | refine qT ?_ | refine qF ?_ | refine qO ?_ | (with_reducible intro z hz); (first | (replace hz := hz (by omega); subst hz) | subst hz) | (refine CallV.mk _ (hC _ _ _ (PCw.of hA)) (fun js hjs => ?_); subst hjs) | (refine CallV.mk _ (hC _ _ _ (PCw.of hM)) (fun js hjs => ?_); subst hjs)); (try (conv => whnf))))
       refine Imms.mk [.sl 1 (p.map IV.str), .sl 1 (nw.map IV.str)] rfl ?_
       (try (conv => whnf)); (repeat ((first | refine qT ?_ | refine qF ?_ | refine qO ?_ | (with_reducible intro z hz); (first | (replace hz := hz (by omega); subst hz) | subst hz) | (refine CallV.mk _ (hC _ _ _ (PCw.of hF)) (fun js hjs => ?_); subst hjs) | (refine CallV.mk _ (hC _ _ _ (PCw.of h4)) (fun js hjs => ?_); subst hjs) | (refine CallV.mk _ (hC _ _ _ (PCw.of h5)) (fun js hjs => ?_); subst hjs) | (refine CallV.mk _ (hC _ _ _ (PCw.of h6)) (fun js hjs => ?_); subst hjs) | (refine CallV.mk _ (hC _ _ _ (PCw.of h7)) (fun js hjs => ?_); subst hjs)); (try (conv => whnf))))
       exact hfin _ (ILes.refl _)
     · refine PC.of_va (T := tbx) eqs_ok tbf_ok rfl mixed Try.func8 rfl rfl (Nat.le_of_ble_eq_true rfl) ?_; intro Γ C WK LP fin h0 hW hC hB hR hLP hfin
       (try (conv => whnf)); (repeat ((first | refine qT ?_ | refine qF ?_ | refine qO ?_ | (with_reducible intro z hz); (first | (replace hz := hz (by omega); subst hz) | subst hz) | (refine CallV.mk _ (hC _ _ _ (PCw.of hA)) (fun js hjs => ?_); subst hjs) | (refine CallV.mk _ (hC _ _ _ (PCw.of hM)) (fun js hjs => ?_); subst hjs)); (try (conv => whnf))))
       refine Imms.mk [.sl 1 (p.map IV.str), .sl 1 (nw.map IV.str)] rfl ?_
       (try (conv => whnf)); (repeat ((first | refine qT ?_ | refine qF ?_ | refine qO ?_ | (with_reducible intro z hz); (first | (replace hz := hz (by omega); subst hz) | subst hz) | (refine CallV.mk _ (hC _ _ _ (PCw.of hF)) (fun js hjs => ?_); subst hjs) | (refine CallV.mk _ (hC _ _ _ (PCw.of h4)) (fun js hjs => ?_); subst hjs) | (refine CallV.mk _ (hC _ _ _ (PCw.of h5)) (fun js hjs => ?_); subst hjs) | (refine CallV.mk _ (hC _ _ _ (PCw.of h6)) (fun js hjs => ?_); subst hjs)); (try (conv => whnf))))
       exact hfin _ (ILes.refl _)
   · by_cases hf2 : f = 0
     · obtain ⟨o3, o4⟩ := o2 hf2
       have h7 := once_pc w U hwl q2 o3
       refine PC.of_va (T := tbx) eqs_ok tbf_ok rfl mixed Try.func8 rfl rfl (Nat.le_of_ble_eq_true rfl) ?_; intro Γ C WK LP fin h0 hW hC hB hR hLP hfin
       (try (conv => whnf)); (repeat ((first | refine qT ?_ | refine qF ?_ | refine qO ?_ | (with_reducible intro z hz); (first | (replace hz := hz (by omega); subst hz) | subst hz) | (refine CallV.mk _ (hC _ _ _ (PCw.of hA)) (fun js hjs => ?_); subst hjs) | (refine CallV.mk _ (hC _ _ _ (PCw.of hM)) (fun js hjs => ?_); subst hjs)); (try (conv => whnf))))
       refine Imms.mk [.sl 1 (p.map IV.str), .sl 1 (nw.map IV.str)] rfl ?_
       (try (conv => whnf)); (repeat ((first | refine qT ?_ | refine qF ?_ | refine qO ?_ | (with_reducible intro z hz); (first | (replace hz := hz (by omega); subst hz) | subst hz) | (refine CallV.mk _ (hC _ _ _ (PCw.of hF)) (fun js hjs => ?_); subst hjs) | (refine CallV.mk _ (hC _ _ _ (PCw.of h4)) (fun js hjs => ?_); subst hjs) | (refine CallV.mk _ (hC _ _ _ (PCw.of h5)) (fun js hjs => ?_); subst hjs) | (refine CallV.mk _ (hC _ _ _ (PCw.of h7)) (fun js hjs => ?_); subst hjs)); (try (conv => whnf))))
       exact hfin _ (ILes.refl _)
     · refine PC.of_va (T := tbx) eqs_ok tbf_ok rfl mixed Try.func8 rfl rfl (Nat.le_of_ble_eq_true rfl) ?_; intro Γ C WK LP fin h0 hW hC hB hR hLP hfin
       (try (conv => whnf)); (repeat ((first | refine qT ?_ | refine qF ?_ | refine qO ?_ | (with_reducible intro z hz); (first | (replace hz := hz (by omega); subst hz) | subst hz) | (refine CallV.mk _ (hC _ _ _ (PCw.of hA)) (fun js hjs => ?_); subst hjs) | (refine CallV.mk _ (hC _ _ _ (PCw.of hM)) (fun js hjs => ?_); subst hjs)); (try (conv => whnf))))
       refine Imms.mk [.sl 1 (p.map IV.str), .sl 1 (nw.map IV.str)] rfl ?_
       (try (conv => whnf)); (repeat ((first | refine qT ?_ | refine qF ?_ | refine qO ?_ | (with_reducible intro z hz); (first | (replace hz := hz (by omega); subst hz) | subst hz) | (refine CallV.mk _ (hC _ _ _ (PCw.of hF)) (fun js hjs => ?_); subst hjs) | (refine CallV.mk _ (hC _ _ _ (PCw.of h4)) (fun js hjs => ?_); subst hjs) | (refine CallV.mk _ (hC _ _ _ (PCw.of h5)) (fun js hjs => ?_); subst hjs)); (try (conv => whnf))))
       exact hfin _ (ILes.refl _)
theorem marksL (l : List Str) (hl : l.length ≤ 100000000) (p : List Str) (hp : p.length ≤ 9223372036854775807) (nw : List Str) (hn : nw.length ≤ 9223372036854775807) (nth : Int) : PC Try.prog env0 8 [.sl 1 (l.map IV.str), .sl 1 (p.map IV.str), .sl 1 (nw.map IV.str), .int .i64 nth] [.bool true] := lawMarks l p nw nth hl hp hn
end Go.Proofs.Ytcgdanbmgeoneaa.Pw
