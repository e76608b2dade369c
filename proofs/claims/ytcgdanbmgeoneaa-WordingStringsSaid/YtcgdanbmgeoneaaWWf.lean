/-
  The reference's put, held, Replace; words compared.
-/
import Derived.Test.YtcgdanbmgeoneaaWWe
namespace Go.Proofs.Ytcgdanbmgeoneaa.Pw
open Go Go.Pv Go.RowKit Go.Proofs.Ytcgdanbmgeoneaa.Pu Go.Proofs.Ytcgdanbmgeoneaa.Pb
set_option linter.unusedSimpArgs false
open Lab Lcs Go.Proofs.Ytcgdanbmgeoneaa
set_option maxRecDepth 10000
set_option maxHeartbeats 16000000
theorem put_pc (w : List Wd) (l : List Nat) (dr : Nat) (nw : List Str) (a i : Int) (hok : OkAt w.length dr 0 l) (hw : w.length ≤ 100000) (hl : l.length ≤ 100000) (hn : nw.length ≤ 1000) (hdr : dr ≤ 100000) :
   PC Try.prog env0 54 [.sl 4 (w.map wdv), .sl 1 (zs l), .int .i64 (dr : Nat), .sl 1 (nw.map IV.str), .int .i64 a, .int .i64 i] [.sl 4 ((spl w dr nw a i 0 0 l).map wdv)] := by
 have h1 : (w.map wdv).length = w.length := List.length_map _
 have h2 : (zs l).length = l.length := zs_len l
 have h3 : (nw.map IV.str).length = nw.length := List.length_map _
 have hlen := spl_len (nw := nw) (a := a) (i := i) (k := 0) hok
 obtain ⟨T, hT⟩ : ∃ T, spl w dr nw a i 0 0 l = T := ⟨_, rfl⟩
 rw [hT] at hlen ⊢
 have hTl : T.length ≤ 200000000 := by
   have e1 : (0 : Int) ≤ ((l.length : Nat) : Int) ∧ ((l.length : Nat) : Int) ≤ 100000 := by omega
   have e2 : ((nw.length : Nat) : Int) - ((dr : Nat) : Int) ≤ 1000 := by omega
   have := Int.mul_le_mul_of_nonneg_left e2 e1.1
   omega
 refine PC.of_va (T := tb0) eqs_ok tb_ok rfl mixed Try.func54 rfl rfl (Nat.le_of_ble_eq_true rfl) ?_; intro Γ C WK LP fin h0 hW hC hB hR hLP hfin
 (try (conv => whnf)); (repeat ((first | refine qT ?_ | refine qF ?_ | refine qO ?_ | (with_reducible intro z hz); (first | (replace hz := hz (by omega); subst hz) | subst hz)); (try (conv => whnf))))
 refine hLP _ _ _ (Nat × Nat × List Wd) (fun q => ⟨[(0, .imm (.sl 4 (w.map wdv))), (1, .imm (.sl 1 (zs l))), (2, .imm (.int .i64 (dr : Nat))), (3, .imm (.sl 1 (nw.map IV.str))), (4, .imm (.int .i64 a)), (5, .imm (.int .i64 i)), (13, .row 0 1), (14, .imm (.int .i64 (q.2.1 : Nat))), (15, .imm (.int .i64 (q.1 : Nat)))], [.row 59 4 1 ((q.2.2.map wdv).map .imm)]⟩) (fun q => q.1 ≤ l.length ∧ OkAt w.length dr q.2.1 (l.drop q.1) ∧ T = q.2.2 ++ spl w dr nw a i q.1 q.2.1 (l.drop q.1)) (fun q => l.length - q.1) (0, 0, []) ⟨Nat.zero_le _, hok, by rw [List.drop_zero, hT]; rfl⟩ (((WeakA.row 0 ((([] : List Wd).map wdv).map .imm) rfl (by rfl))).trans (qSL 1 rfl rfl)) ?_
 rintro ⟨k, d, F⟩ ⟨hk, hkok, hinv⟩
 dsimp only at hk hkok hinv ⊢
 have hFl : F.length + (spl w dr nw a i k d (l.drop k)).length = T.length := by rw [hinv, List.length_append]
 have hho := Nat.lt_or_ge k l.length
 cases hho with
 | inl hlt =>
   obtain ⟨t, hx⟩ : ∃ t, l[k]? = some t := ⟨l[k], List.getElem?_eq_getElem hlt⟩
   obtain ⟨g1, g2, g3⟩ := ok_next hx hkok
   have hnx := at_next (w := w) (dr := dr) (nw := nw) (a := a) (i := i) (d := d) hx
   rw [hnx] at hinv hFl
   have hkb : 0 ≤ ((k : Nat) : Int) * (((nw.map IV.str).length : Nat) : Int) ∧ ((k : Nat) : Int) * (((nw.map IV.str).length : Nat) : Int) ≤ 10000000000 := by
     rw [h3]
     have e1 : (0 : Int) ≤ ((k : Nat) : Int) ∧ ((k : Nat) : Int) ≤ 100000 := by omega
     have e2 : (0 : Int) ≤ ((nw.length : Nat) : Int) ∧ ((nw.length : Nat) : Int) ≤ 100000 := by omega
     generalize ((k : Nat) : Int) = x at e1 ⊢
     generalize ((nw.length : Nat) : Int) = y at e2 ⊢
     exact ⟨Int.mul_nonneg e1.1 e2.1, by
       have h1 := Int.mul_le_mul_of_nonneg_left e2.2 e1.1
       omega⟩
   have hM := rmark_pc nw a i (((k : Nat) : Int) * (((nw.map IV.str).length : Nat) : Int)) (by omega) ⟨by omega, by omega⟩
   have hmk : mkW a i (((k : Nat) : Int) * (((nw.map IV.str).length : Nat) : Int)) nw = mkW a i (((k : Nat) : Int) * ((nw.length : Nat) : Int)) nw := by rw [h3]
   rw [hmk] at hM
   obtain ⟨m, hm⟩ : ∃ m, mkW a i (((k : Nat) : Int) * ((nw.length : Nat) : Int)) nw = m := ⟨_, rfl⟩
   rw [hm] at hM hinv hFl
   have hml : m.length = nw.length := by rw [← hm, mkW_len]
   have hmz : (m.map wdv).length = m.length := List.length_map _
   obtain ⟨c, hc⟩ : ∃ c, (w.drop d).take (t - d) = c := ⟨_, rfl⟩
   rw [hc] at hinv hFl
   have hcl : c.length = t - d := by rw [← hc, List.length_take, List.length_drop]; omega
   have hsub : List.take (((t : Nat) : Int).toNat - ((d : Nat) : Int).toNat) (List.drop ((d : Nat) : Int).toNat (w.map wdv)) = c.map wdv := by
     rw [Int.toNat_natCast, Int.toNat_natCast, ← hc, List.map_take, List.map_drop]
   have hsl : (List.take (((t : Nat) : Int).toNat - ((d : Nat) : Int).toNat) (List.drop ((d : Nat) : Int).toNat (w.map wdv))).length = t - d := by rw [hsub, List.length_map, hcl]
   simp only [List.length_append] at hFl
   have hFz : ((F.map wdv).map PV.imm).length = F.length := by rw [List.length_map, List.length_map]
   have hO1 : ((F.map wdv).map PV.imm).length + (List.take (((t : Nat) : Int).toNat - ((d : Nat) : Int).toNat) (List.drop ((d : Nat) : Int).toNat (w.map wdv))).length ≤ most := by unfold most; omega
   have hO2 : (((F.map wdv).map PV.imm) ++ (List.take (((t : Nat) : Int).toNat - ((d : Nat) : Int).toNat) (List.drop ((d : Nat) : Int).toNat (w.map wdv))).map PV.imm).length + (m.map wdv).length ≤ most := by unfold most; simp only [List.length_append, List.length_map]; omega
   (try (conv => whnf)); (repeat ((first | refine qT ?_ | refine qF ?_ | refine qO ?_ | (with_reducible intro z hz); (first | (replace hz := hz (by omega); subst hz) | subst hz)); (try (conv => whnf))))
   refine Idx.mk k (.int .i64 ((t : Nat) : Int)) _ rfl (by simp [zs, zi, hx]) rfl ?_
   (try (conv => whnf)); (repeat ((first | refine qT ?_ | refine qF ?_ | refine qO ?_ | (with_reducible intro z hz); (first | (replace hz := hz (by omega); subst hz) | subst hz) | (refine CallV.mk _ (hC _ _ _ (PCw.of hM)) (fun js hjs => ?_); subst hjs)); (try (conv => whnf))))
   refine Idx.mk k (.int .i64 ((t : Nat) : Int)) _ rfl (by simp [zs, zi, hx]) rfl ?_
   (try (conv => whnf)); (repeat ((first | refine qT ?_ | refine qF ?_ | refine qO ?_ | (with_reducible intro z hz); (first | (replace hz := hz (by omega); subst hz) | subst hz)); (try (conv => whnf))))
   exact ⟨(k + 1, t + dr, F ++ c ++ m), ⟨by dsimp only; omega, g3, by rw [hinv]; simp⟩, by dsimp only; omega, ((WeakA.row 0 (((F ++ c ++ m).map wdv).map .imm) rfl (by rw [hsub]; simp))).trans ((WeakA.renew 0 1 rfl (by first | omega | (intro _; rw [hk0 _ _ rfl]; exact Nat.le_of_ble_eq_true rfl)) (by repeat (first | exact trivial | refine And.intro (rgL_imms _ _ _ _) ?_ | refine And.intro rfl ?_))).trans (qSL 1 rfl rfl))⟩
 | inr hge =>
   obtain rfl : k = l.length := by omega
   rw [List.drop_length] at hinv hFl
   obtain ⟨c, hc⟩ : ∃ c, w.drop d = c := ⟨_, rfl⟩
   simp only [spl] at hinv hFl
   rw [hc] at hinv hFl
   have hdw : d ≤ w.length := by rw [List.drop_length] at hkok; exact hkok
   have hcl : c.length = w.length - d := by rw [← hc, List.length_drop]
   have hsub : List.drop ((d : Nat) : Int).toNat (w.map wdv) = c.map wdv := by rw [Int.toNat_natCast, ← hc, List.map_drop]
   have hFz : ((F.map wdv).map PV.imm).length = F.length := by rw [List.length_map, List.length_map]
   have hsl : (List.drop ((d : Nat) : Int).toNat (w.map wdv)).length = c.length := by rw [hsub, List.length_map]
   have hO1 : ((F.map wdv).map PV.imm).length + (List.drop ((d : Nat) : Int).toNat (w.map wdv)).length ≤ most := by unfold most; omega
   (try (conv => whnf)); (repeat ((first | refine qT ?_ | refine qF ?_ | refine qO ?_ | (with_reducible intro z hz); (first | (replace hz := hz (by omega); subst hz) | subst hz)); (try (conv => whnf))))
   refine Imms.mk (T.map wdv) (by rw [hinv, hsub]; simp) ?_
   exact hfin _ (ILes.refl _)
theorem held_pc (w : List Wd) (hw : w.length ≤ 1000000000) : PC Try.prog env0 53 [.sl 4 (w.map wdv)] (if 256 < w.length then [.sl 4 [], .int .i64 6] else [.sl 4 (w.map wdv), .int .i64 0]) := by
 have h1 : (w.map wdv).length = w.length := List.length_map _
 by_cases h : 256 < w.length
 · rw [if_pos h]
   refine PC.of_va (T := tb0) eqs_ok tb_ok rfl mixed Try.func53 rfl rfl (Nat.le_of_ble_eq_true rfl) ?_; intro Γ C WK LP fin h0 hW hC hB hR hLP hfin
   (try (conv => whnf)); (repeat ((first | refine qT ?_ | refine qF ?_ | refine qO ?_ | (with_reducible intro z hz); (first | (replace hz := hz (by omega); subst hz) | subst hz)); (try (conv => whnf))))
   exact hfin _ (.cons (.nil 4) (.refl _))
 · rw [if_neg h]
   refine PC.of_va (T := tb0) eqs_ok tb_ok rfl mixed Try.func53 rfl rfl (Nat.le_of_ble_eq_true rfl) ?_; intro Γ C WK LP fin h0 hW hC hB hR hLP hfin
   (try (conv => whnf)); (repeat ((first | refine qT ?_ | refine qF ?_ | refine qO ?_ | (with_reducible intro z hz); (first | (replace hz := hz (by omega); subst hz) | subst hz)); (try (conv => whnf))))
   exact hfin _ (ILes.refl _)
theorem spl_big {w : List Wd} {dr : Nat} {nw : List Str} {a i : Int} {l : List Nat} (hok : OkAt w.length dr 0 l) (hw : w.length ≤ 100000) (hl : l.length ≤ 100000) (hn : nw.length ≤ 1000) : (spl w dr nw a i 0 0 l).length ≤ 1000000000 := by
 have hlen := spl_len (nw := nw) (a := a) (i := i) (k := 0) hok
 have e1 : (0 : Int) ≤ ((l.length : Nat) : Int) ∧ ((l.length : Nat) : Int) ≤ 100000 := by omega
 have e2 : ((nw.length : Nat) : Int) - ((dr : Nat) : Int) ≤ 1000 := by omega
 have := Int.mul_le_mul_of_nonneg_left e2 e1.1
 omega
theorem rreplace_pc (w : List Wd) (p nw : List Str) (nth a i : Int) (hw : w.length ≤ 100000) (hp : p.length ≤ 100000) (hn : nw.length ≤ 1000) : PC Try.prog env0 27 [.sl 4 (w.map wdv), .sl 1 (p.map IV.str), .sl 1 (nw.map IV.str), .int .i64 nth, .int .i64 a, .int .i64 i] (out2 (repA w p nw nth a i)) := by
 have h2 : (p.map IV.str).length = p.length := List.length_map _
 unfold repA out2
 by_cases hp0 : p.length = 0
 · rw [if_pos (Or.inl hp0)]
   refine PC.of_va (T := tb0) eqs_ok tb_ok rfl mixed Try.func27 rfl rfl (Nat.le_of_ble_eq_true rfl) ?_; intro Γ C WK LP fin h0 hW hC hB hR hLP hfin
   (try (conv => whnf)); (repeat ((first | refine qT ?_ | refine qF ?_ | refine qO ?_ | (with_reducible intro z hz); (first | (replace hz := hz (by omega); subst hz) | subst hz)); (try (conv => whnf))))
   exact hfin _ (.cons (.nil 4) (.refl _))
 by_cases hn0 : nth < 0
 · rw [if_pos (Or.inr hn0)]
   refine PC.of_va (T := tb0) eqs_ok tb_ok rfl mixed Try.func27 rfl rfl (Nat.le_of_ble_eq_true rfl) ?_; intro Γ C WK LP fin h0 hW hC hB hR hLP hfin
   (try (conv => whnf)); (repeat ((first | refine qT ?_ | refine qF ?_ | refine qO ?_ | (with_reducible intro z hz); (first | (replace hz := hz (by omega); subst hz) | subst hz)); (try (conv => whnf))))
   exact hfin _ (.cons (.nil 4) (.refl _))
 rw [if_neg (by omega)]
 have hX := texts_pc w (by omega)
 have hol := occs_len (txts w) p
 rw [txts_len] at hol
 have hFi := rfind4_pc (txts w) p (by rw [txts_len]; omega) hp
 have hCh := chosen_pc (occs (txts w) p) nth (by omega) (by omega)
 have hk := ok_occs (w := w) (p := p) (by omega) nth
 have hcl := chs_len (occs (txts w) p) nth
 generalize chs (occs (txts w) p) nth = C at hCh hk hcl ⊢
 generalize occs (txts w) p = O at hFi hCh hcl hol
 have hzl : (zs C).length = C.length := zs_len C
 by_cases hc : C.length = 0
 · rw [if_pos hc]
   refine PC.of_va (T := tb0) eqs_ok tb_ok rfl mixed Try.func27 rfl rfl (Nat.le_of_ble_eq_true rfl) ?_; intro Γ C WK LP fin h0 hW hC hB hR hLP hfin
   (try (conv => whnf)); (repeat ((first | refine qT ?_ | refine qF ?_ | refine qO ?_ | (with_reducible intro z hz); (first | (replace hz := hz (by omega); subst hz) | subst hz) | (refine CallV.mk _ (hC _ _ _ (PCw.of hX)) (fun js hjs => ?_); subst hjs) | (refine CallV.mk _ (hC _ _ _ (PCw.of hFi)) (fun js hjs => ?_); subst hjs) | (refine CallV.mk _ (hC _ _ _ (PCw.of hCh)) (fun js hjs => ?_); subst hjs)); (try (conv => whnf))))
   exact hfin _ (.cons (.nil 4) (.refl _))
 rw [if_neg hc]
 have hS := put_pc w C p.length nw a i hk hw (by omega) hn hp
 have hH := held_pc (spl w p.length nw a i 0 0 C) (spl_big hk hw (by omega) hn)
 rw [← h2] at hS hH ⊢
 by_cases hb : 256 < (spl w (p.map IV.str).length nw a i 0 0 C).length
 · rw [if_pos hb] at hH ⊢
   refine PC.of_va (T := tb0) eqs_ok tb_ok rfl mixed Try.func27 rfl rfl (Nat.le_of_ble_eq_true rfl) ?_; intro Γ C WK LP fin h0 hW hC hB hR hLP hfin
   (try (conv => whnf)); (repeat ((first | refine qT ?_ | refine qF ?_ | refine qO ?_ | (with_reducible intro z hz); (first | (replace hz := hz (by omega); subst hz) | subst hz) | (refine CallV.mk _ (hC _ _ _ (PCw.of hX)) (fun js hjs => ?_); subst hjs) | (refine CallV.mk _ (hC _ _ _ (PCw.of hFi)) (fun js hjs => ?_); subst hjs) | (refine CallV.mk _ (hC _ _ _ (PCw.of hCh)) (fun js hjs => ?_); subst hjs) | (refine CallV.mk _ (hC _ _ _ (PCw.of hS)) (fun js hjs => ?_); subst hjs) | (refine CallV.mk _ (hC _ _ _ (PCw.of hH)) (fun js hjs => ?_); subst hjs)); (try (conv => whnf))))
   exact hfin _ (ILes.refl _)
 · rw [if_neg hb] at hH ⊢
   refine PC.of_va (T := tb0) eqs_ok tb_ok rfl mixed Try.func27 rfl rfl (Nat.le_of_ble_eq_true rfl) ?_; intro Γ C WK LP fin h0 hW hC hB hR hLP hfin
   (try (conv => whnf)); (repeat ((first | refine qT ?_ | refine qF ?_ | refine qO ?_ | (with_reducible intro z hz); (first | (replace hz := hz (by omega); subst hz) | subst hz) | (refine CallV.mk _ (hC _ _ _ (PCw.of hX)) (fun js hjs => ?_); subst hjs) | (refine CallV.mk _ (hC _ _ _ (PCw.of hFi)) (fun js hjs => ?_); subst hjs) | (refine CallV.mk _ (hC _ _ _ (PCw.of hCh)) (fun js hjs => ?_); subst hjs) | (refine CallV.mk _ (hC _ _ _ (PCw.of hS)) (fun js hjs => ?_); subst hjs) | (refine CallV.mk _ (hC _ _ _ (PCw.of hH)) (fun js hjs => ?_); subst hjs)); (try (conv => whnf))))
   exact hfin _ (ILes.refl _)
theorem wd_eq {a b : Wd} (h : a = b) : eqC [.str a.text, .int .i64 a.mark.x, .int .i64 a.mark.y, .int .i64 a.mark.z] [.str b.text, .int .i64 b.mark.x, .int .i64 b.mark.y, .int .i64 b.mark.z] = true := by subst h; simp [eqC]
theorem wd_ne {a b : Wd} (h : a ≠ b) : ¬ eqC [.str a.text, .int .i64 a.mark.x, .int .i64 a.mark.y, .int .i64 a.mark.z] [.str b.text, .int .i64 b.mark.x, .int .i64 b.mark.y, .int .i64 b.mark.z] = true := fun e => h (by
 obtain ⟨s, ⟨x, y, z⟩⟩ := a
 obtain ⟨s2, ⟨x2, y2, z2⟩⟩ := b
 simpa [eqC, and_assoc] using e)
theorem rows_pc (a b : List Wd) (_ha : a.length ≤ 1000000000) (_hb : b.length ≤ 1000000000) : PC Try.prog env0 18 [.sl 4 (a.map wdv), .sl 4 (b.map wdv)] [.bool (decide (a = b))] := by
 have h1 : (a.map wdv).length = a.length := List.length_map _
 have h2 : (b.map wdv).length = b.length := List.length_map _
 by_cases hl : a.length = b.length
 · refine PC.of_va (T := tb0) eqs_ok tb_ok rfl mixed Try.func18 rfl rfl (Nat.le_of_ble_eq_true rfl) ?_; intro Γ C WK LP fin h0 hW hC hB hR hLP hfin
   (try (conv => whnf)); (repeat ((first | refine qT ?_ | refine qF ?_ | refine qO ?_ | (with_reducible intro z hz); (first | (replace hz := hz (by omega); subst hz) | subst hz)); (try (conv => whnf))))
   refine hLP _ _ _ Nat (fun k => ⟨[(0, .imm (.sl 4 (a.map wdv))), (1, .imm (.sl 4 (b.map wdv))), (5, .imm (.int .i64 (k : Nat)))], []⟩) (fun k => k ≤ a.length ∧ a.take k = b.take k) (fun k => a.length - k) 0 ⟨Nat.zero_le _, rfl⟩ (qSL 0 rfl rfl) ?_
   rintro k ⟨hk, hab⟩
   have hho := Nat.lt_or_ge k a.length
   cases hho with
   | inl hlt =>
     obtain ⟨x, hx⟩ : ∃ x, a[k]? = some x := ⟨a[k], List.getElem?_eq_getElem hlt⟩
     obtain ⟨y, hy⟩ : ∃ y, b[k]? = some y := ⟨b[k]'(by omega), List.getElem?_eq_getElem (by omega)⟩
     by_cases hxy : x = y
     · have hi := wd_eq hxy
       (try (conv => whnf)); (repeat ((first | refine qT ?_ | refine qF ?_ | refine qO ?_ | (with_reducible intro z hz); (first | (replace hz := hz (by omega); subst hz) | subst hz)); (try (conv => whnf))))
       refine Idx.mk k (wdv x) _ rfl (by simp [hx]) rfl ?_
       (try (conv => whnf)); (repeat ((first | refine qT ?_ | refine qF ?_ | refine qO ?_ | (with_reducible intro z hz); (first | (replace hz := hz (by omega); subst hz) | subst hz)); (try (conv => whnf))))
       refine Idx.mk k (wdv y) _ rfl (by simp [hy]) rfl ?_
       (try (conv => whnf)); (repeat ((first | refine qT ?_ | refine qF ?_ | refine qO ?_ | (with_reducible intro z hz); (first | (replace hz := hz (by omega); subst hz) | subst hz)); (try (conv => whnf))))
       exact ⟨k + 1, ⟨by omega, by rw [take_at hx, take_at hy, hab, hxy]⟩, by dsimp only; omega, (qSL 0 rfl rfl)⟩
     · have hi := wd_ne hxy
       (try (conv => whnf)); (repeat ((first | refine qT ?_ | refine qF ?_ | refine qO ?_ | (with_reducible intro z hz); (first | (replace hz := hz (by omega); subst hz) | subst hz)); (try (conv => whnf))))
       refine Idx.mk k (wdv x) _ rfl (by simp [hx]) rfl ?_
       (try (conv => whnf)); (repeat ((first | refine qT ?_ | refine qF ?_ | refine qO ?_ | (with_reducible intro z hz); (first | (replace hz := hz (by omega); subst hz) | subst hz)); (try (conv => whnf))))
       refine Idx.mk k (wdv y) _ rfl (by simp [hy]) rfl ?_
       (try (conv => whnf)); (repeat ((first | refine qT ?_ | refine qF ?_ | refine qO ?_ | (with_reducible intro z hz); (first | (replace hz := hz (by omega); subst hz) | subst hz)); (try (conv => whnf))))
       rw [decide_eq_false (prefix_ne hx hy hxy)] at hfin
       exact hfin _ (ILes.refl _)
   | inr hge =>
     (try (conv => whnf)); (repeat ((first | refine qT ?_ | refine qF ?_ | refine qO ?_ | (with_reducible intro z hz); (first | (replace hz := hz (by omega); subst hz) | subst hz)); (try (conv => whnf))))
     obtain rfl : k = a.length := by omega
     rw [List.take_length, hl, List.take_length] at hab
     rw [decide_eq_true hab] at hfin
     exact hfin _ (ILes.refl _)
 · rw [decide_eq_false (fun e => hl (by rw [e]))]
   refine PC.of_va (T := tb0) eqs_ok tb_ok rfl mixed Try.func18 rfl rfl (Nat.le_of_ble_eq_true rfl) ?_; intro Γ C WK LP fin h0 hW hC hB hR hLP hfin
   (try (conv => whnf)); (repeat ((first | refine qT ?_ | refine qF ?_ | refine qO ?_ | (with_reducible intro z hz); (first | (replace hz := hz (by omega); subst hz) | subst hz)); (try (conv => whnf))))
   exact hfin _ (ILes.refl _)
end Go.Proofs.Ytcgdanbmgeoneaa.Pw
