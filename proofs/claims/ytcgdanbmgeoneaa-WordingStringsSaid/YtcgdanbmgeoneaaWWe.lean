/-
  Replace; the reference's Stands, Find, chosen, put, held, Replace.
-/
import Derived.Test.YtcgdanbmgeoneaaWWd
namespace Go.Proofs.Ytcgdanbmgeoneaa.Pw
open Go Go.Pv Go.RowKit Go.Proofs.Ytcgdanbmgeoneaa.Pu Go.Proofs.Ytcgdanbmgeoneaa.Pb
set_option linter.unusedSimpArgs false
open Lab Lcs Go.Proofs.Ytcgdanbmgeoneaa
set_option maxRecDepth 10000
set_option maxHeartbeats 16000000
def chs (O : List Nat) (nth : Int) : List Nat := if nth = 0 then O else (O.drop (nth.toNat - 1)).take 1
theorem chs_miss {O : List Nat} {nth : Int} (h0 : nth ≠ 0) (h : (O.length : Int) < nth) : chs O nth = [] := by
 unfold chs
 rw [if_neg h0, List.drop_of_length_le (by omega)]
 rfl
theorem chs_len (O : List Nat) (nth : Int) : (chs O nth).length ≤ O.length := by
 unfold chs
 split
 · exact Nat.le_refl _
 · rw [List.length_take, List.length_drop]; omega
theorem chs_sub {O : List Nat} {nth : Int} (h0 : nth ≠ 0) (hn : 0 ≤ nth) (_h : nth ≤ (O.length : Int)) : List.take (nth.toNat - (nth - 1).toNat) (List.drop (nth - 1).toNat (zs O)) = zs (chs O nth) := by
 unfold chs zs
 rw [if_neg h0, show nth.toNat - (nth - 1).toNat = 1 by omega, show (nth - 1).toNat = nth.toNat - 1 by omega, List.map_take, List.map_drop]
theorem occs_len (l p : List Str) : (occs l p).length ≤ l.length := by
 by_cases hp : p.length = 0
 · unfold occs; rw [if_pos hp]; simp
 · rw [occs_F (by omega)]
   have := occF_len l p (by omega) (l.length + 1) 0 (by omega)
   omega
theorem txts_len (w : List Wd) : (txts w).length = w.length := List.length_map _
theorem occur_pc (w : List Wd) (p : List Str) (nth : Int) (hw : w.length ≤ 100000) (hp : p.length ≤ 100000) (hn : 0 ≤ nth) : PC Try.prog env0 49 [.sl 4 (w.map wdv), .sl 1 (p.map IV.str), .int .i64 nth] [.sl 1 (zs (chs (occs (txts w) p) nth))] := by
 have hS := strings_pc w (by omega)
 have hF := findAll4_pc (txts w) p (by rw [txts_len]; omega) hp
 have hol := occs_len (txts w) p
 rw [txts_len] at hol
 generalize occs (txts w) p = O at hF hol ⊢
 have hzl : (zs O).length = O.length := zs_len O
 by_cases h0 : nth = 0
 · rw [show chs O nth = O by unfold chs; rw [if_pos h0]]
   refine PC.of_va (T := tb0) eqs_ok tb_ok rfl mixed Try.func49 rfl rfl (Nat.le_of_ble_eq_true rfl) ?_; intro Γ C WK LP fin h0 hW hC hB hR hLP hfin
   (try (conv => whnf)); (repeat ((first | refine qT ?_ | refine qF ?_ | refine qO ?_ | (with_reducible intro z hz); (first | (replace hz := hz (by omega); subst hz) | subst hz) | (refine CallV.mk _ (hC _ _ _ (PCw.of hS)) (fun js hjs => ?_); subst hjs) | (refine CallV.mk _ (hC _ _ _ (PCw.of hF)) (fun js hjs => ?_); subst hjs)); (try (conv => whnf))))
   exact hfin _ (ILes.refl _)
 by_cases h1 : nth ≤ (O.length : Int)
 · have hsub := chs_sub h0 hn h1
   refine PC.of_va (T := tb0) eqs_ok tb_ok rfl mixed Try.func49 rfl rfl (Nat.le_of_ble_eq_true rfl) ?_; intro Γ C WK LP fin h0 hW hC hB hR hLP hfin
   (try (conv => whnf)); (repeat ((first | refine qT ?_ | refine qF ?_ | refine qO ?_ | (with_reducible intro z hz); (first | (replace hz := hz (by omega); subst hz) | subst hz) | (refine CallV.mk _ (hC _ _ _ (PCw.of hS)) (fun js hjs => ?_); subst hjs) | (refine CallV.mk _ (hC _ _ _ (PCw.of hF)) (fun js hjs => ?_); subst hjs)); (try (conv => whnf))))
   rw [hsub]
   exact hfin _ (ILes.refl _)
 · rw [chs_miss h0 (by omega)]
   refine PC.of_va (T := tb0) eqs_ok tb_ok rfl mixed Try.func49 rfl rfl (Nat.le_of_ble_eq_true rfl) ?_; intro Γ C WK LP fin h0 hW hC hB hR hLP hfin
   (try (conv => whnf)); (repeat ((first | refine qT ?_ | refine qF ?_ | refine qO ?_ | (with_reducible intro z hz); (first | (replace hz := hz (by omega); subst hz) | subst hz) | (refine CallV.mk _ (hC _ _ _ (PCw.of hS)) (fun js hjs => ?_); subst hjs) | (refine CallV.mk _ (hC _ _ _ (PCw.of hF)) (fun js hjs => ?_); subst hjs)); (try (conv => whnf))))
   exact hfin _ (.cons (.nil 1) (.refl _))
theorem ok_occ {l p : List Str} (hp : 0 < p.length) : ∀ (n i : Nat), l.length + 1 - i ≤ n → ∀ {d N : Nat}, d ≤ i → d ≤ N → l.length = N → OkAt N p.length d (occF l p i)
 | 0, i, h, d, N, hd, hN, hl => by rw [occF_end (by omega)]; exact hN
 | n + 1, i, h, d, N, hd, hN, hl => by
   by_cases h1 : i + p.length ≤ l.length
   · by_cases h2 : atB l p i = true
     · rw [occF_hit hp h1 h2]
       exact ⟨hd, by omega, ok_occ hp n (i + p.length) (by omega) (Nat.le_refl _) (by omega) hl⟩
     · rw [occF_miss hp h1 h2]
       exact ok_occ hp n (i + 1) (by omega) (by omega) hN hl
   · rw [occF_end h1]; exact hN
theorem ok_mem {N dr : Nat} : ∀ {l : List Nat} {d : Nat}, OkAt N dr d l → ∀ t ∈ l, d ≤ t ∧ t + dr ≤ N
 | [], _, _, t, ht => by cases ht
 | x :: r, d, ⟨h1, h2, h3⟩, t, ht => by
   rcases List.mem_cons.1 ht with rfl | ht
   · exact ⟨h1, h2⟩
   · have := ok_mem h3 t ht
     omega
theorem ok_end {N dr : Nat} : ∀ {l : List Nat} {d : Nat}, OkAt N dr d l → d ≤ N
 | [], _, h => h
 | x :: r, d, ⟨h1, h2, _⟩ => by omega
theorem ok_chs {N dr : Nat} {O : List Nat} {nth : Int} (h : OkAt N dr 0 O) : OkAt N dr 0 (chs O nth) := by
 unfold chs
 split
 · exact h
 · cases hq : O.drop (nth.toNat - 1) with
   | nil => exact ok_end h
   | cons x r =>
     have hx : x ∈ O := List.mem_of_mem_drop (by rw [hq]; exact List.mem_cons_self)
     have := ok_mem h x hx
     exact ⟨Nat.zero_le _, this.2, this.2⟩
theorem ok_occs {w : List Wd} {p : List Str} (hp : 0 < p.length) (nth : Int) : OkAt w.length p.length 0 (chs (occs (txts w) p) nth) := by
 refine ok_chs ?_
 rw [occs_F hp]
 exact ok_occ hp _ 0 (Nat.le_refl _) (Nat.le_refl _) (Nat.zero_le _) (txts_len w)
def repA (w : List Wd) (p nw : List Str) (nth a i : Int) : List Wd × Int :=
 if p.length = 0 ∨ nth < 0 then ([], 1) else if (chs (occs (txts w) p) nth).length = 0 then ([], 4) else
 if 256 < (spl w p.length nw a i 0 0 (chs (occs (txts w) p) nth)).length then ([], 6) else (spl w p.length nw a i 0 0 (chs (occs (txts w) p) nth), 0)
def out2 (q : List Wd × Int) : List IV := [.sl 4 (q.1.map wdv), .int .i64 q.2]
theorem replace_pc (w : List Wd) (p nw : List Str) (nth a i : Int) (hw : w.length ≤ 100000) (hp : p.length ≤ 100000) (hn : nw.length ≤ 100000) : PC Try.prog env0 26 [.sl 4 (w.map wdv), .sl 1 (p.map IV.str), .sl 1 (nw.map IV.str), .int .i64 nth, .int .i64 a, .int .i64 i] (out2 (repA w p nw nth a i)) := by
 have h2 : (p.map IV.str).length = p.length := List.length_map _
 unfold repA out2
 by_cases hp0 : p.length = 0
 · rw [if_pos (Or.inl hp0)]
   refine PC.of_va (T := tb0) eqs_ok tb_ok rfl mixed Try.func26 rfl rfl (Nat.le_of_ble_eq_true rfl) ?_; intro Γ C WK LP fin h0 hW hC hB hR hLP hfin
   (try (conv => whnf)); (repeat ((first | refine qT ?_ | refine qF ?_ | refine qO ?_ | (with_reducible intro z hz); (first | (replace hz := hz (by omega); subst hz) | subst hz)); (try (conv => whnf))))
   exact hfin _ (.cons (.nil 4) (.refl _))
 by_cases hn0 : nth < 0
 · rw [if_pos (Or.inr hn0)]
   refine PC.of_va (T := tb0) eqs_ok tb_ok rfl mixed Try.func26 rfl rfl (Nat.le_of_ble_eq_true rfl) ?_; intro Γ C WK LP fin h0 hW hC hB hR hLP hfin
   (try (conv => whnf)); (repeat ((first | refine qT ?_ | refine qF ?_ | refine qO ?_ | (with_reducible intro z hz); (first | (replace hz := hz (by omega); subst hz) | subst hz)); (try (conv => whnf))))
   exact hfin _ (.cons (.nil 4) (.refl _))
 rw [if_neg (by omega)]
 have hO := occur_pc w p nth hw hp (by omega)
 have hk := ok_occs (w := w) (p := p) (by omega) nth
 have hcl := chs_len (occs (txts w) p) nth
 have hol := occs_len (txts w) p
 rw [txts_len] at hol
 generalize chs (occs (txts w) p) nth = C at hO hk hcl ⊢
 have hzl : (zs C).length = C.length := zs_len C
 by_cases hc : C.length = 0
 · rw [if_pos hc]
   refine PC.of_va (T := tb0) eqs_ok tb_ok rfl mixed Try.func26 rfl rfl (Nat.le_of_ble_eq_true rfl) ?_; intro Γ C WK LP fin h0 hW hC hB hR hLP hfin
   (try (conv => whnf)); (repeat ((first | refine qT ?_ | refine qF ?_ | refine qO ?_ | (with_reducible intro z hz); (first | (replace hz := hz (by omega); subst hz) | subst hz) | (refine CallV.mk _ (hC _ _ _ (PCw.of hO)) (fun js hjs => ?_); subst hjs)); (try (conv => whnf))))
   exact hfin _ (.cons (.nil 4) (.refl _))
 rw [if_neg hc]
 have hS := splice_pc w C p.length nw a i hk hw (by omega) hn hp
 rw [← h2] at hS ⊢
 by_cases hb : 256 < (spl w (p.map IV.str).length nw a i 0 0 C).length
 · rw [if_pos hb] at hS ⊢
   refine PC.of_va (T := tb0) eqs_ok tb_ok rfl mixed Try.func26 rfl rfl (Nat.le_of_ble_eq_true rfl) ?_; intro Γ C WK LP fin h0 hW hC hB hR hLP hfin
   (try (conv => whnf)); (repeat ((first | refine qT ?_ | refine qF ?_ | refine qO ?_ | (with_reducible intro z hz); (first | (replace hz := hz (by omega); subst hz) | subst hz) | (refine CallV.mk _ (hC _ _ _ (PCw.of hO)) (fun js hjs => ?_); subst hjs) | (refine CallV.mk _ (hC _ _ _ (PCw.of hS)) (fun js hjs => ?_); subst hjs)); (try (conv => whnf))))
   exact hfin _ (ILes.refl _)
 · rw [if_neg hb] at hS ⊢
   refine PC.of_va (T := tb0) eqs_ok tb_ok rfl mixed Try.func26 rfl rfl (Nat.le_of_ble_eq_true rfl) ?_; intro Γ C WK LP fin h0 hW hC hB hR hLP hfin
   (try (conv => whnf)); (repeat ((first | refine qT ?_ | refine qF ?_ | refine qO ?_ | (with_reducible intro z hz); (first | (replace hz := hz (by omega); subst hz) | subst hz) | (refine CallV.mk _ (hC _ _ _ (PCw.of hO)) (fun js hjs => ?_); subst hjs) | (refine CallV.mk _ (hC _ _ _ (PCw.of hS)) (fun js hjs => ?_); subst hjs)); (try (conv => whnf))))
   exact hfin _ (ILes.refl _)
theorem stands4_pc (l p : List Str) (i : Nat) (hl : l.length ≤ 100000) (hp : p.length ≤ 100000) (hi : i ≤ 1000000) : PC Try.prog env0 66 [.sl 1 (l.map IV.str), .sl 1 (p.map IV.str), .int .i64 (i : Nat)] [.bool (decide (i + p.length ≤ l.length) && atB l p i)] := by
 have h1 : (l.map IV.str).length = l.length := List.length_map _
 have h2 : (p.map IV.str).length = p.length := List.length_map _
 by_cases h : i + p.length ≤ l.length
 · have hE := same4_pc ((l.drop i).take p.length) p (by rw [List.length_take]; omega) (by omega)
   rw [decide_eq_true h, Bool.true_and]
   unfold atB
   generalize decide ((l.drop i).take p.length = p) = b at hE ⊢
   have hsub : List.take ((((i : Nat) : Int) + (((p.map IV.str).length : Nat) : Int)).toNat - ((i : Nat) : Int).toNat) (List.drop ((i : Nat) : Int).toNat (l.map IV.str)) = ((l.drop i).take p.length).map IV.str := by
     rw [h2, show (((i : Nat) : Int) + ((p.length : Nat) : Int)).toNat - ((i : Nat) : Int).toNat = p.length by omega, Int.toNat_natCast, List.map_take, List.map_drop]
   rw [← hsub] at hE
   refine PC.of_va (T := tb0) eqs_ok tb_ok rfl mixed Try.func66 rfl rfl (Nat.le_of_ble_eq_true rfl) ?_; intro Γ C WK LP fin h0 hW hC hB hR hLP hfin
   (try (conv => whnf)); (repeat ((first | refine qT ?_ | refine qF ?_ | refine qO ?_ | (with_reducible intro z hz); (first | (replace hz := hz (by omega); subst hz) | subst hz) | (refine CallV.mk _ (hC _ _ _ (PCw.of hE)) (fun js hjs => ?_); subst hjs)); (try (conv => whnf))))
   exact hfin _ (ILes.refl _)
 · rw [decide_eq_false h, Bool.false_and]
   refine PC.of_va (T := tb0) eqs_ok tb_ok rfl mixed Try.func66 rfl rfl (Nat.le_of_ble_eq_true rfl) ?_; intro Γ C WK LP fin h0 hW hC hB hR hLP hfin
   (try (conv => whnf)); (repeat ((first | refine qT ?_ | refine qF ?_ | refine qO ?_ | (with_reducible intro z hz); (first | (replace hz := hz (by omega); subst hz) | subst hz)); (try (conv => whnf))))
   exact hfin _ (ILes.refl _)
theorem rfind4_pc (l p : List Str) (hl : l.length ≤ 100000) (hpl : p.length ≤ 100000) : PC Try.prog env0 52 [.sl 1 (l.map IV.str), .sl 1 (p.map IV.str)] [.sl 1 (zs (occs l p))] := by
 have h1 : (l.map IV.str).length = l.length := List.length_map _
 have h2 : (p.map IV.str).length = p.length := List.length_map _
 by_cases hp : p.length = 0
 · unfold occs
   rw [if_pos hp]
   refine PC.of_va (T := tb0) eqs_ok tb_ok rfl mixed Try.func52 rfl rfl (Nat.le_of_ble_eq_true rfl) ?_; intro Γ C WK LP fin h0 hW hC hB hR hLP hfin
   (try (conv => whnf)); (repeat ((first | refine qT ?_ | refine qF ?_ | refine qO ?_ | (with_reducible intro z hz); (first | (replace hz := hz (by omega); subst hz) | subst hz)); (try (conv => whnf))))
   refine Imms.mk (zs []) rfl ?_
   exact hfin _ (ILes.refl _)
 have hp0 : 0 < p.length := by omega
 rw [occs_F hp0]
 refine PC.of_va (T := tb0) eqs_ok tb_ok rfl mixed Try.func52 rfl rfl (Nat.le_of_ble_eq_true rfl) ?_; intro Γ C WK LP fin h0 hW hC hB hR hLP hfin
 (try (conv => whnf)); (repeat ((first | refine qT ?_ | refine qF ?_ | refine qO ?_ | (with_reducible intro z hz); (first | (replace hz := hz (by omega); subst hz) | subst hz)); (try (conv => whnf))))
 refine hLP _ _ _ (Nat × List Nat) (fun q => ⟨[(0, .imm (.sl 1 (l.map IV.str))), (1, .imm (.sl 1 (p.map IV.str))), (5, .row 0 1), (6, .imm (.int .i64 (q.1 : Nat)))], [.row 3 1 1 ((zs q.2).map .imm)]⟩) (fun q => q.2.length ≤ q.1 ∧ q.1 ≤ l.length + p.length ∧ occF l p 0 = q.2 ++ occF l p q.1) (fun q => l.length + p.length + 1 - q.1) (0, []) ⟨Nat.zero_le _, Nat.zero_le _, rfl⟩ (((WeakA.row 0 ((zs []).map .imm) rfl (by simp [zs]))).trans (qSL 1 rfl rfl)) ?_
 rintro ⟨i, L⟩ ⟨hi, hil, hinv⟩
 dsimp only at hi hil hinv ⊢
 by_cases hlt : i < l.length
 · have hE := stands4_pc l p i hl hpl (by omega)
   have hzl : ((zs L).map PV.imm).length = L.length := by rw [List.length_map, zs_len]
   have hzl2 : (zs L).length = L.length := zs_len L
   by_cases hf : i + p.length ≤ l.length
   · rw [decide_eq_true hf, Bool.true_and] at hE
     by_cases ha : atB l p i = true
     · rw [ha] at hE
       (try (conv => whnf)); (repeat ((first | refine qT ?_ | refine qF ?_ | refine qO ?_ | (with_reducible intro z hz); (first | (replace hz := hz (by omega); subst hz) | subst hz) | (refine CallV.mk _ (hC _ _ _ (PCw.of hE)) (fun js hjs => ?_); subst hjs)); (try (conv => whnf))))
       exact ⟨(i + p.length, L ++ [i]), ⟨by simp only [List.length_append, List.length_singleton]; omega, by dsimp only; omega, by rw [hinv, occF_hit hp0 hf ha]; simp⟩, by dsimp only; omega, ((WeakA.row 0 ((zs (L ++ [i])).map .imm) rfl (by rw [zs_app]; simp [zs, zi]))).trans ((WeakA.renew 0 1 rfl (by first | omega | (intro _; rw [hk0 _ _ rfl]; exact Nat.le_of_ble_eq_true rfl)) (by repeat (first | exact trivial | refine And.intro (rgL_imms _ _ _ _) ?_ | refine And.intro rfl ?_))).trans (qSL 1 rfl rfl))⟩
     · rw [Bool.not_eq_true] at ha
       rw [ha] at hE
       (try (conv => whnf)); (repeat ((first | refine qT ?_ | refine qF ?_ | refine qO ?_ | (with_reducible intro z hz); (first | (replace hz := hz (by omega); subst hz) | subst hz) | (refine CallV.mk _ (hC _ _ _ (PCw.of hE)) (fun js hjs => ?_); subst hjs)); (try (conv => whnf))))
       exact ⟨(i + 1, L), ⟨by dsimp only; omega, by dsimp only; omega, by rw [hinv, occF_miss hp0 hf (by rw [ha]; decide)]⟩, by dsimp only; omega, (qSL 1 rfl rfl)⟩
   · rw [decide_eq_false hf, Bool.false_and] at hE
     (try (conv => whnf)); (repeat ((first | refine qT ?_ | refine qF ?_ | refine qO ?_ | (with_reducible intro z hz); (first | (replace hz := hz (by omega); subst hz) | subst hz) | (refine CallV.mk _ (hC _ _ _ (PCw.of hE)) (fun js hjs => ?_); subst hjs)); (try (conv => whnf))))
     exact ⟨(i + 1, L), ⟨by dsimp only; omega, by dsimp only; omega, by rw [hinv, occF_end hf, occF_end (by omega)]⟩, by dsimp only; omega, (qSL 1 rfl rfl)⟩
 · rw [occF_end (i := i) (by omega), List.append_nil] at hinv
   (try (conv => whnf)); (repeat ((first | refine qT ?_ | refine qF ?_ | refine qO ?_ | (with_reducible intro z hz); (first | (replace hz := hz (by omega); subst hz) | subst hz)); (try (conv => whnf))))
   refine Imms.mk (zs (occF l p 0)) (by rw [hinv]) ?_
   exact hfin _ (ILes.refl _)
theorem chosen_pc (O : List Nat) (nth : Int) (hl : O.length ≤ 1000000) (hn : 0 ≤ nth) : PC Try.prog env0 51 [.sl 1 (zs O), .int .i64 nth] [.sl 1 (zs (chs O nth))] := by
 have hzl : (zs O).length = O.length := zs_len O
 by_cases h0 : nth = 0
 · rw [show chs O nth = O by unfold chs; rw [if_pos h0]]
   refine PC.of_va (T := tb0) eqs_ok tb_ok rfl mixed Try.func51 rfl rfl (Nat.le_of_ble_eq_true rfl) ?_; intro Γ C WK LP fin h0 hW hC hB hR hLP hfin
   (try (conv => whnf)); (repeat ((first | refine qT ?_ | refine qF ?_ | refine qO ?_ | (with_reducible intro z hz); (first | (replace hz := hz (by omega); subst hz) | subst hz)); (try (conv => whnf))))
   exact hfin _ (ILes.refl _)
 by_cases h1 : nth ≤ (O.length : Int)
 · have hsub := chs_sub h0 hn h1
   refine PC.of_va (T := tb0) eqs_ok tb_ok rfl mixed Try.func51 rfl rfl (Nat.le_of_ble_eq_true rfl) ?_; intro Γ C WK LP fin h0 hW hC hB hR hLP hfin
   (try (conv => whnf)); (repeat ((first | refine qT ?_ | refine qF ?_ | refine qO ?_ | (with_reducible intro z hz); (first | (replace hz := hz (by omega); subst hz) | subst hz)); (try (conv => whnf))))
   rw [hsub]
   exact hfin _ (ILes.refl _)
 · rw [chs_miss h0 (by omega)]
   refine PC.of_va (T := tb0) eqs_ok tb_ok rfl mixed Try.func51 rfl rfl (Nat.le_of_ble_eq_true rfl) ?_; intro Γ C WK LP fin h0 hW hC hB hR hLP hfin
   (try (conv => whnf)); (repeat ((first | refine qT ?_ | refine qF ?_ | refine qO ?_ | (with_reducible intro z hz); (first | (replace hz := hz (by omega); subst hz) | subst hz)); (try (conv => whnf))))
   exact hfin _ (.cons (.nil 1) (.refl _))
end Go.Proofs.Ytcgdanbmgeoneaa.Pw
