/-
  The reference's Behind; the law of InsertAfter.
-/
import Derived.Test.YtcgdanbmgeoneaaWWj
namespace Go.Proofs.Ytcgdanbmgeoneaa.Pw
open Go Go.Pv Go.RowKit Go.Proofs.Ytcgdanbmgeoneaa.Pu Go.Proofs.Ytcgdanbmgeoneaa.Pb
set_option linter.unusedSimpArgs false
open Lab Lcs Go.Proofs.Ytcgdanbmgeoneaa
set_option maxRecDepth 10000
set_option maxHeartbeats 16000000
theorem held2_pc (T : List Wd) (hT : T.length ≤ 1000000000) : PC Try.prog env0 53 [.sl 4 (T.map wdv)] (out2 (heldW T)) := by
 have hH := held_pc T hT
 unfold out2 heldW
 by_cases hb : 256 < T.length
 · rw [if_pos hb] at hH ⊢; exact hH
 · rw [if_neg hb] at hH ⊢; exact hH
theorem rbehind_pc (w : List Wd) (p nw : List Str) (nth a i : Int) (hw : w.length ≤ 100000) (hpl : p.length ≤ 100000) (hnl : nw.length ≤ 1000) : PC Try.prog env0 29 [.sl 4 (w.map wdv), .sl 1 (p.map IV.str), .sl 1 (nw.map IV.str), .int .i64 nth, .int .i64 a, .int .i64 i] (out2 (insW w p nw nth a i)) := by
 have h2 : (p.map IV.str).length = p.length := List.length_map _
 have h3 : (nw.map IV.str).length = nw.length := List.length_map _
 unfold insW
 by_cases c1 : nw.length = 0
 · rw [if_pos (Or.inl c1)]
   unfold out2
   refine PC.of_va (T := tbx) eqs_ok tbf_ok rfl mixed Try.func29 rfl rfl (Nat.le_of_ble_eq_true rfl) ?_; intro Γ C WK LP fin h0 hW hC hB hR hLP hfin
   (try (conv => whnf)); (repeat ((first | refine qT ?_ | refine qF ?_ | refine qO ?_ | (with_reducible intro z hz); (first | (replace hz := hz (by omega); subst hz) | subst hz)); (try (conv => whnf))))
   exact hfin _ (.cons (.nil 4) (.refl _))
 by_cases c2 : nth < 0
 · rw [if_pos (Or.inr (Or.inl c2))]
   unfold out2
   refine PC.of_va (T := tbx) eqs_ok tbf_ok rfl mixed Try.func29 rfl rfl (Nat.le_of_ble_eq_true rfl) ?_; intro Γ C WK LP fin h0 hW hC hB hR hLP hfin
   (try (conv => whnf)); (repeat ((first | refine qT ?_ | refine qF ?_ | refine qO ?_ | (with_reducible intro z hz); (first | (replace hz := hz (by omega); subst hz) | subst hz)); (try (conv => whnf))))
   exact hfin _ (.cons (.nil 4) (.refl _))
 by_cases c3 : p.length = 0
 · by_cases c4 : nth = 0
   · rw [if_neg (by omega), if_pos c3]
     have hok : OkAt w.length 0 0 [0] := ⟨Nat.zero_le _, Nat.zero_le _, Nat.zero_le _⟩
     have hS0 := put_pc w [0] 0 nw a i hok hw (by simp) (by omega) (by omega)
     have hT := spl_big (nw := nw) (a := a) (i := i) hok hw (by simp) (by omega)
     have hH2 := held2_pc _ hT
     generalize spl w 0 nw a i 0 0 [0] = T at hS0 hH2 hT ⊢
     have hS : PC Try.prog env0 54 [.sl 4 (w.map wdv), .sl 1 [.int .i64 0], .int .i64 0, .sl 1 (nw.map IV.str), .int .i64 a, .int .i64 i] [.sl 4 (T.map wdv)] := hS0
     generalize heldW T = R at hH2 ⊢
     unfold out2 at *
     refine PC.of_va (T := tbx) eqs_ok tbf_ok rfl mixed Try.func29 rfl rfl (Nat.le_of_ble_eq_true rfl) ?_; intro Γ C WK LP fin h0 hW hC hB hR hLP hfin
     (try (conv => whnf)); (repeat ((first | refine qT ?_ | refine qF ?_ | refine qO ?_ | (with_reducible intro z hz); (first | (replace hz := hz (by omega); subst hz) | subst hz)); (try (conv => whnf))))
     refine Imms.mk [.int .i64 0] rfl ?_
     (try (conv => whnf)); (repeat ((first | refine qT ?_ | refine qF ?_ | refine qO ?_ | (with_reducible intro z hz); (first | (replace hz := hz (by omega); subst hz) | subst hz) | (refine CallV.mk _ (hC _ _ _ (PCw.of hS)) (fun js hjs => ?_); subst hjs) | (refine CallV.mk _ (hC _ _ _ (PCw.of hH2)) (fun js hjs => ?_); subst hjs)); (try (conv => whnf))))
     exact hfin _ (ILes.refl _)
   · rw [if_pos (Or.inr (Or.inr ⟨c3, c4⟩))]
     unfold out2
     refine PC.of_va (T := tbx) eqs_ok tbf_ok rfl mixed Try.func29 rfl rfl (Nat.le_of_ble_eq_true rfl) ?_; intro Γ C WK LP fin h0 hW hC hB hR hLP hfin
     (try (conv => whnf)); (repeat ((first | refine qT ?_ | refine qF ?_ | refine qO ?_ | (with_reducible intro z hz); (first | (replace hz := hz (by omega); subst hz) | subst hz)); (try (conv => whnf))))
     exact hfin _ (.cons (.nil 4) (.refl _))
 rw [if_neg (by omega), if_neg c3]
 have hX := texts_pc w (by omega)
 have hol := occs_len (txts w) p
 rw [txts_len] at hol
 have hFi := rfind4_pc (txts w) p (by rw [txts_len]; omega) hpl
 have hCh := chosen_pc (occs (txts w) p) nth (by omega) (by omega)
 have hk := ok_occs (w := w) (p := p) (by omega) nth
 have hcl := chs_len (occs (txts w) p) nth
 generalize chs (occs (txts w) p) nth = Q at hCh hk hcl ⊢
 generalize occs (txts w) p = O at hFi hCh hcl hol
 have hzl : (zs Q).length = Q.length := zs_len Q
 by_cases hc : Q.length = 0
 · rw [if_pos hc]
   unfold out2
   refine PC.of_va (T := tbx) eqs_ok tbf_ok rfl mixed Try.func29 rfl rfl (Nat.le_of_ble_eq_true rfl) ?_; intro Γ C WK LP fin h0 hW hC hB hR hLP hfin
   (try (conv => whnf)); (repeat ((first | refine qT ?_ | refine qF ?_ | refine qO ?_ | (with_reducible intro z hz); (first | (replace hz := hz (by omega); subst hz) | subst hz) | (refine CallV.mk _ (hC _ _ _ (PCw.of hX)) (fun js hjs => ?_); subst hjs) | (refine CallV.mk _ (hC _ _ _ (PCw.of hFi)) (fun js hjs => ?_); subst hjs) | (refine CallV.mk _ (hC _ _ _ (PCw.of hCh)) (fun js hjs => ?_); subst hjs)); (try (conv => whnf))))
   exact hfin _ (.cons (.nil 4) (.refl _))
 rw [if_neg hc]
 have hup := ok_up hk
 have hS0 := put_pc w (Q.map (· + p.length)) 0 nw a i hup hw (by rw [List.length_map]; omega) (by omega) (by omega)
 have hT := spl_big (nw := nw) (a := a) (i := i) hup hw (by rw [List.length_map]; omega) (by omega)
 have hH2 := held2_pc _ hT
 generalize spl w 0 nw a i 0 0 (Q.map (· + p.length)) = T at hS0 hH2 hT ⊢
 have hS : PC Try.prog env0 54 [.sl 4 (w.map wdv), .sl 1 (zs (Q.map (· + p.length))), .int .i64 0, .sl 1 (nw.map IV.str), .int .i64 a, .int .i64 i] [.sl 4 (T.map wdv)] := hS0
 generalize heldW T = R at hH2 ⊢
 unfold out2 at *
 refine PC.of_va (T := tbx) eqs_ok tbf_ok rfl mixed Try.func29 rfl rfl (Nat.le_of_ble_eq_true rfl) ?_; intro Γ C WK LP fin h0 hW hC hB hR hLP hfin
 (try (conv => whnf)); (repeat ((first | refine qT ?_ | refine qF ?_ | refine qO ?_ | (with_reducible intro z hz); (first | (replace hz := hz (by omega); subst hz) | subst hz) | (refine CallV.mk _ (hC _ _ _ (PCw.of hX)) (fun js hjs => ?_); subst hjs) | (refine CallV.mk _ (hC _ _ _ (PCw.of hFi)) (fun js hjs => ?_); subst hjs) | (refine CallV.mk _ (hC _ _ _ (PCw.of hCh)) (fun js hjs => ?_); subst hjs)); (try (conv => whnf))))
 refine hLP _ _ _ Nat (fun k => ⟨[(0, .imm (.sl 4 (w.map wdv))), (1, .imm (.sl 1 (p.map IV.str))), (2, .imm (.sl 1 (nw.map IV.str))), (4, .imm (.int .i64 a)), (5, .imm (.int .i64 i)), (14, .imm (.sl 1 (zs Q))), (15, .row 3 1), (16, .imm (.int .i64 (k : Nat)))], [.dead 0, .dead 0, .dead 0, .row 3 1 1 ((zs ((Q.take k).map (· + p.length))).map .imm)]⟩) (fun k => k ≤ Q.length) (fun k => Q.length - k) 0 (Nat.zero_le _) (((WeakA.row 3 ((zs ((Q.take 0).map (· + p.length))).map .imm) rfl (by simp [zs]))).trans (qSL 4 rfl rfl)) ?_
 intro k hkl
 have hho := Nat.lt_or_ge k Q.length
 cases hho with
 | inl hlt =>
   obtain ⟨t, hx⟩ : ∃ t, Q[k]? = some t := ⟨Q[k], List.getElem?_eq_getElem hlt⟩
   have htb := (ok_mem hk t (List.mem_of_getElem? hx)).2
   have hrl : ((zs ((Q.take k).map (· + p.length))).map PV.imm).length = k := by rw [List.length_map, zs_len, List.length_map, List.length_take]; omega
   have hrl2 : (zs ((Q.take k).map (· + p.length))).length = k := by rw [zs_len, List.length_map, List.length_take]; omega
   have hO1 : ((zs ((Q.take k).map (· + p.length))).map PV.imm).length + [PV.imm (IV.int IntKind.i64 (((t : Nat) : Int) + (((p.map IV.str).length : Nat) : Int)))].length ≤ most := by rw [hrl, List.length_singleton]; unfold most; omega
   (try (conv => whnf)); (repeat ((first | refine qT ?_ | refine qF ?_ | refine qO ?_ | (with_reducible intro z hz); (first | (replace hz := hz (by omega); subst hz) | subst hz)); (try (conv => whnf))))
   refine Idx.mk k (.int .i64 ((t : Nat) : Int)) _ rfl (by simp [zs, zi, hx]) rfl ?_
   (try (conv => whnf)); (repeat ((first | refine qT ?_ | refine qF ?_ | refine qO ?_ | (with_reducible intro z hz); (first | (replace hz := hz (by omega); subst hz) | subst hz)); (try (conv => whnf))))
   exact ⟨k + 1, by omega, by dsimp only; omega, ((WeakA.row 3 ((zs ((Q.take (k + 1)).map (· + p.length))).map .imm) rfl (by rw [take_at hx]; simp [zs, zi]))).trans ((WeakA.renew 3 1 rfl (by first | omega | (intro _; rw [hk0 _ _ rfl]; exact Nat.le_of_ble_eq_true rfl)) (by repeat (first | exact trivial | refine And.intro (rgL_imms _ _ _ _) ?_ | refine And.intro rfl ?_))).trans (qSL 4 rfl rfl))⟩
 | inr hge =>
   obtain rfl : k = Q.length := by omega
   (try (conv => whnf)); (repeat ((first | refine qT ?_ | refine qF ?_ | refine qO ?_ | (with_reducible intro z hz); (first | (replace hz := hz (by omega); subst hz) | subst hz)); (try (conv => whnf))))
   refine Imms.mk (zs (Q.map (· + p.length))) (by rw [List.take_length]) ?_
   (try (conv => whnf)); (repeat ((first | refine qT ?_ | refine qF ?_ | refine qO ?_ | (with_reducible intro z hz); (first | (replace hz := hz (by omega); subst hz) | subst hz) | (refine CallV.mk _ (hC _ _ _ (PCw.of hS)) (fun js hjs => ?_); subst hjs) | (refine CallV.mk _ (hC _ _ _ (PCw.of hH2)) (fun js hjs => ?_); subst hjs)); (try (conv => whnf))))
   exact hfin _ (ILes.refl _)
theorem heldW_len (T : List Wd) : (heldW T).1.length ≤ 1000000000 := by
 unfold heldW
 split
 · exact Nat.zero_le _
 · show T.length ≤ 1000000000; omega
theorem insW_len (w : List Wd) (p nw : List Str) (nth a i : Int) : (insW w p nw nth a i).1.length ≤ 1000000000 := by
 unfold insW
 split
 · exact Nat.zero_le _
 · split
   · exact heldW_len _
   · split
     · exact Nat.zero_le _
     · exact heldW_len _
theorem lawInserts (w : List Wd) (p nw : List Str) (nth a i : Int) (hw : w.length ≤ 9223372036854775807) (hp : p.length ≤ 9223372036854775807) (hn : nw.length ≤ 9223372036854775807) : PC Try.prog env0 6 [.sl 4 (w.map wdv), .sl 1 (p.map IV.str), .sl 1 (nw.map IV.str), .int .i64 nth, .int .i64 a, .int .i64 i] [.bool true] := by
 have hA := awake_pc
 have hF := few2_pc w p nw hw hp hn
 cases hf : fewW w [p, nw] with
 | false =>
   rw [hf] at hF
   refine PC.of_va (T := tbx) eqs_ok tbf_ok rfl mixed Try.func6 rfl rfl (Nat.le_of_ble_eq_true rfl) ?_; intro Γ C WK LP fin h0 hW hC hB hR hLP hfin
   (try (conv => whnf)); (repeat ((first | refine qT ?_ | refine qF ?_ | refine qO ?_ | (with_reducible intro z hz); (first | (replace hz := hz (by omega); subst hz) | subst hz) | (refine CallV.mk _ (hC _ _ _ (PCw.of hA)) (fun js hjs => ?_); subst hjs)); (try (conv => whnf))))
   refine Imms.mk [.sl 1 (p.map IV.str), .sl 1 (nw.map IV.str)] rfl ?_
   (try (conv => whnf)); (repeat ((first | refine qT ?_ | refine qF ?_ | refine qO ?_ | (with_reducible intro z hz); (first | (replace hz := hz (by omega); subst hz) | subst hz) | (refine CallV.mk _ (hC _ _ _ (PCw.of hF)) (fun js hjs => ?_); subst hjs)); (try (conv => whnf))))
   exact hfin _ (ILes.refl _)
 | true =>
   rw [hf] at hF
   obtain ⟨h1, h2, h3⟩ := fewW_facts hf
   have h4 := insert_pc w p nw nth a i (by omega) (by omega) (by omega)
   have h5 := rbehind_pc w p nw nth a i (by omega) (by omega) (by omega)
   have hb : (insW w p nw nth a i).1.length ≤ 1000000000 := insW_len w p nw nth a i
   generalize insW w p nw nth a i = q at h4 h5 hb
   obtain ⟨T, e⟩ := q
   dsimp only at hb
   have h6 := rows_pc T T hb hb
   rw [decide_eq_true rfl] at h6
   refine PC.of_va (T := tbx) eqs_ok tbf_ok rfl mixed Try.func6 rfl rfl (Nat.le_of_ble_eq_true rfl) ?_; intro Γ C WK LP fin h0 hW hC hB hR hLP hfin
   (try (conv => whnf)); (repeat ((first | refine qT ?_ | refine qF ?_ | refine qO ?_ | (with_reducible intro z hz); (first | (replace hz := hz (by omega); subst hz) | subst hz) | (refine CallV.mk _ (hC _ _ _ (PCw.of hA)) (fun js hjs => ?_); subst hjs)); (try (conv => whnf))))
   refine Imms.mk [.sl 1 (p.map IV.str), .sl 1 (nw.map IV.str)] rfl ?_
   (try (conv => whnf)); (repeat ((first | refine qT ?_ | refine qF ?_ | refine qO ?_ | (with_reducible intro z hz); (first | (replace hz := hz (by omega); subst hz) | subst hz) | (refine CallV.mk _ (hC _ _ _ (PCw.of hF)) (fun js hjs => ?_); subst hjs) | (refine CallV.mk _ (hC _ _ _ (PCw.of h4)) (fun js hjs => ?_); subst hjs) | (refine CallV.mk _ (hC _ _ _ (PCw.of h5)) (fun js hjs => ?_); subst hjs) | (refine CallV.mk _ (hC _ _ _ (PCw.of h6)) (fun js hjs => ?_); subst hjs)); (try (conv => whnf))))
   exact hfin _ (ILes.refl _)
theorem insertsL (w : List Wd) (hw : w.length ≤ 9223372036854775807) (p : List Str) (hp : p.length ≤ 9223372036854775807) (nw : List Str) (hn : nw.length ≤ 9223372036854775807) (nth a i : Int) : PC Try.prog env0 6 [.sl 4 (w.map wdv), .sl 1 (p.map IV.str), .sl 1 (nw.map IV.str), .int .i64 nth, .int .i64 a, .int .i64 i] [.bool true] := lawInserts w p nw nth a i hw hp hn
end Go.Proofs.Ytcgdanbmgeoneaa.Pw
