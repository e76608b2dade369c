/-
  Replace; the reference's Stands, Find, chosen, put, held, Replace.
-/
import Derived.Test.YtckamfmllkpafaaWWd
namespace Go.Proofs.Ytckamfmllkpafaa.Pw
open Go Go.Pv Go.RowKit Go.Proofs.Ytckamfmllkpafaa.Pu Go.Proofs.Ytckamfmllkpafaa.Pb
set_option linter.unusedSimpArgs false
open Lab Lcs Go.Proofs.Ytckamfmllkpafaa
set_option maxRecDepth 10000
set_option maxHeartbeats 16000000
def chs (O : List Nat) (nth : Int) : List Nat := if nth = 0 then O else (O.drop (nth.toNat - 1)).take 1
theorem chs_miss {O : List Nat} {nth : Int} (h0 : nth ≠ 0) (h : (O.length : Int) < nth) : chs O nth = [] := by
 unfold chs
 rw [if_neg h0, List.drop_of_length_le (by omega)]
 rfl
theorem chs_len (O : List Nat) (nth : Int) : (chs O nth).length ≤ O.length := by
 unfold chs
 split
 · exact Nat.le_refl _
 · rw [List.length_take, List.length_drop]; omega
theorem chs_sub {O : List Nat} {nth : Int} (h0 : nth ≠ 0) (hn : 0 ≤ nth) (_h : nth ≤ (O.length : Int)) : List.take (nth.toNat - (nth - 1).toNat) (List.drop (nth - 1).toNat (zs O)) = zs (chs O nth) := by
 unfold chs zs
 rw [if_neg h0, show nth.toNat - (nth - 1).toNat = 1 by omega, show (nth - 1).toNat = nth.toNat - 1 by omega, List.map_take, List.map_drop]
theorem occs_len (l p : List Str) : (occs l p).length ≤ l.length := by
 by_cases hp : p.length = 0
 · unfold occs; rw [if_pos hp]; simp
 · rw [occs_F (by omega)]
   have := occF_len l p (by omega) (l.length + 1) 0 (by omega)
   omega
theorem txts_len (w : List Wd) : (txts w).length = w.length := List.length_map _
theorem occur_pc (w : List Wd) (p : List Str) (nth : Int) (hw : w.length ≤ 100000) (hp : p.length ≤ 100000) (hn : 0 ≤ nth) : PC Try.prog env0 38 [.sl 4 (w.map wdv), .sl 1 (p.map IV.str), .int .i64 nth] [.sl 1 (zs (chs (occs (txts w) p) nth))] := by
 have hS := strings_pc w (by omega)
 have hF := findAll4_pc (txts w) p (by rw [txts_len]; omega) hp
 have hol := occs_len (txts w) p
 rw [txts_len] at hol
 generalize occs (txts w) p = O at hF hol ⊢
 have hzl : (zs O).length = O.length := zs_len O
 by_cases h0 : nth = 0
 · rw [show chs O nth = O by unfold chs; rw [if_pos h0]]
   refine PC.of_va (T := tb0) eqs_ok tb_ok rfl mixed Try.func38 rfl rfl (Nat.le_of_ble_eq_true rfl) ?_; intro Γ C WK LP fin h0 hW hC hB hR hLP hfin
   (try (conv => whnf)); (repeat ((first | refine qT ?_ | refine qF ?_ | refine qO ?_ | (with_reducible intro z hz); (first | (replace hz := hz (by omega); subst hz) | subst hz) | (refine CallV.mk _ (hC _ _ _ (PCw.of hS)) (fun js hjs => ?_); subst hjs) | (refine CallV.mk _ (hC _ _ _ (PCw.of hF)) (fun js hjs => ?_); subst hjs)); (try (conv => whnf))))
   exact hfin _ (ILes.refl _)
 by_cases h1 : nth ≤ (O.length : Int)
 · have hsub := chs_sub h0 hn h1
   refine PC.of_va (T := tb0) eqs_ok tb_ok rfl mixed Try.func38 rfl rfl (Nat.le_of_ble_eq_true rfl) ?_; intro Γ C WK LP fin h0 hW hC hB hR hLP hfin
   (try (conv => whnf)); (repeat ((first | refine qT ?_ | refine qF ?_ | refine qO ?_ | (with_reducible intro z hz); (first | (replace hz := hz (by omega); subst hz) | subst hz) | (refine CallV.mk _ (hC _ _ _ (PCw.of hS)) (fun js hjs => ?_); subst hjs) | (refine CallV.mk _ (hC _ _ _ (PCw.of hF)) (fun js hjs => ?_); subst hjs)); (try (conv => whnf))))
   rw [hsub]
   exact hfin _ (ILes.refl _)
 · rw [chs_miss h0 (by omega)]
   refine PC.of_va (T := tb0) eqs_ok tb_ok rfl mixed Try.func38 rfl rfl (Nat.le_of_ble_eq_true rfl) ?_; intro Γ C WK LP fin h0 hW hC hB hR hLP hfin
   (try (conv => whnf)); (repeat ((first | refine qT ?_ | refine qF ?_ | refine qO ?_ | (with_reducible intro z hz); (first | (replace hz := hz (by omega); subst hz) | subst hz) | (refine CallV.mk _ (hC _ _ _ (PCw.of hS)) (fun js hjs => ?_); subst hjs) | (refine CallV.mk _ (hC _ _ _ (PCw.of hF)) (fun js hjs => ?_); subst hjs)); (try (conv => whnf))))
   exact hfin _ (.cons (.nil 1) (.refl _))
theorem ok_occ {l p : List Str} (hp : 0 < p.length) : ∀ (n i : Nat), l.length + 1 - i ≤ n → ∀ {d N : Nat}, d ≤ i → d ≤ N → l.length = N → OkAt N p.length d (occF l p i)
 | 0, i, h, d, N, hd, hN, hl => by rw [occF_end (by omega)]; exact hN
 | n + 1, i, h, d, N, hd, hN, hl => by
   by_cases h1 : i + p.length ≤ l.length
   · by_cases h2 : atB l p i = true
     · rw [occF_hit hp h1 h2]
       exact ⟨hd, by omega, ok_occ hp n (i + p.length) (by omega) (Nat.le_refl _) (by omega) hl⟩
     · rw [occF_miss hp h1 h2]
       exact ok_occ hp n (i + 1) (by omega) (by omega) hN hl
   · rw [occF_end h1]; exact hN
theorem ok_mem {N dr : Nat} : ∀ {l : List Nat} {d : Nat}, OkAt N dr d l → ∀ t ∈ l, d ≤ t ∧ t + dr ≤ N
 | [], _, _, t, ht => by cases ht
 | x :: r, d, ⟨h1, h2, h3⟩, t, ht => by
   rcases List.mem_cons.1 ht with rfl | ht
   · exact ⟨h1, h2⟩
   · have := ok_mem h3 t ht
     omega
theorem ok_end {N dr : Nat} : ∀ {l : List Nat} {d : Nat}, OkAt N dr d l → d ≤ N
 | [], _, h => h
 | x :: r, d, ⟨h1, h2, _⟩ => by omega
theorem ok_chs {N dr : Nat} {O : List Nat} {nth : Int} (h : OkAt N dr 0 O) : OkAt N dr 0 (chs O nth) := by
 unfold chs
 split
 · exact h
 · cases hq : O.drop (nth.toNat - 1) with
   | nil => exact ok_end h
   | cons x r =>
     have hx : x ∈ O := List.mem_of_mem_drop (by rw [hq]; exact List.mem_cons_self)
     have := ok_mem h x hx
     exact ⟨Nat.zero_le _, this.2, this.2⟩
theorem ok_occs {w : List Wd} {p : List Str} (hp : 0 < p.length) (nth : Int) : OkAt w.length p.length 0 (chs (occs (txts w) p) nth) := by
 refine ok_chs ?_
 rw [occs_F hp]
 exact ok_occ hp _ 0 (Nat.le_refl _) (Nat.le_refl _) (Nat.zero_le _) (txts_len w)
def repA (w : List Wd) (p nw : List Str) (nth a i : Int) : List Wd × Int :=
 if p.length = 0 ∨ nth < 0 then ([], 1) else if (chs (occs (txts w) p) nth).length = 0 then ([], 4) else
 if 256 < (spl w p.length nw a i 0 0 (chs (occs (txts w) p) nth)).length then ([], 6) else (spl w p.length nw a i 0 0 (chs (occs (txts w) p) nth), 0)
def out2 (q : List Wd × Int) : List IV := [.sl 4 (q.1.map wdv), .int .i64 q.2]
theorem replace_pc (w : List Wd) (p nw : List Str) (nth a i : Int) (hw : w.length ≤ 100000) (hp : p.length ≤ 100000) (hn : nw.length ≤ 100000) : PC Try.prog env0 21 [.sl 4 (w.map wdv), .sl 1 (p.map IV.str), .sl 1 (nw.map IV.str), .int .i64 nth, .int .i64 a, .int .i64 i] (out2 (repA w p nw nth a i)) := by
 have h2 : (p.map IV.str).length = p.length := List.length_map _
 unfold repA out2
 by_cases hp0 : p.length = 0
 · rw [if_pos (Or.inl hp0)]
   refine PC.of_va (T := tb0) eqs_ok tb_ok rfl mixed Try.func21 rfl rfl (Nat.le_of_ble_eq_true rfl) ?_; intro Γ C WK LP fin h0 hW hC hB hR hLP hfin
   (try (conv => whnf)); (repeat ((first | refine qT ?_ | refine qF ?_ | refine qO ?_ | (with_reducible intro z hz); (first | (replace hz := hz (by omega); subst hz) | subst hz)); (try (conv => whnf))))
   exact hfin _ (.cons (.nil 4) (.refl _))
 by_cases hn0 : nth < 0
 · rw [if_pos (Or.inr hn0)]
   refine PC.of_va (T := tb0) eqs_ok tb_ok rfl mixed Try.func21 rfl rfl (Nat.le_of_ble_eq_true rfl) ?_; intro Γ C WK LP fin h0 hW hC hB hR hLP hfin
   (try (conv => whnf)); (repeat ((first | refine qT ?_ | refine qF ?_ | refine qO ?_ | (with_reducible intro z hz); (first | (replace hz := hz (by omega); subst hz) | subst hz)); (try (conv => whnf))))
   exact hfin _ (.cons (.nil 4) (.refl _))
 rw [if_neg (by omega)]
 have hO := occur_pc w p nth hw hp (by omega)
 have hk := ok_occs (w := w) (p := p) (by omega) nth
 have hcl := chs_len (occs (txts w) p) nth
 have hol := occs_len (txts w) p
 rw [txts_len] at hol
 generalize chs (occs (txts w) p) nth = C at hO hk hcl ⊢
 have hzl : (zs C).length = C.length := zs_len C
 by_cases hc : C.length = 0
 · rw [if_pos hc]
   refine PC.of_va (T := tb0) eqs_ok tb_ok rfl mixed Try.func21 rfl rfl (Nat.le_of_ble_eq_true rfl) ?_; intro Γ C WK LP fin h0 hW hC hB hR hLP hfin
   (try (conv => whnf)); (repeat ((first | refine qT ?_ | refine qF ?_ | refine qO ?_ | (with_reducible intro z hz); (first | (replace hz := hz (by omega); subst hz) | subst hz) | (refine CallV.mk _ (hC _ _ _ (PCw.of hO)) (fun js hjs => ?_); subst hjs)); (try (conv => whnf))))
   exact hfin _ (.cons (.nil 4) (.refl _))
 rw [if_neg hc]
 have hS := splice_pc w C p.length nw a i hk hw (by omega) hn hp
 rw [← h2] at hS ⊢
 by_cases hb : 256 < (spl w (p.map IV.str).length nw a i 0 0 C).length
 · rw [if_pos hb] at hS ⊢
   refine PC.of_va (T := tb0) eqs_ok tb_ok rfl mixed Try.func21 rfl rfl (Nat.le_of_ble_eq_true rfl) ?_; intro Γ C WK LP fin h0 hW hC hB hR hLP hfin
   (try (conv => whnf)); (repeat ((first | refine qT ?_ | refine qF ?_ | refine qO ?_ | (with_reducible intro z hz); (first | (replace hz := hz (by omega); subst hz) | subst hz) | (refine CallV.mk _ (hC _ _ _ (PCw.of hO)) (fun js hjs => ?_); subst hjs) | (refine CallV.mk _ (hC _ _ _ (PCw.of hS)) (fun js hjs => ?_); subst hjs)); (try (conv => whnf))))
   exact hfin _ (ILes.refl _)
 · rw [if_neg hb] at hS ⊢
   refine PC.of_va (T := tb0) eqs_ok tb_ok rfl mixed Try.func21 rfl rfl (Nat.le_of_ble_eq_true rfl) ?_; intro Γ C WK LP fin h0 hW hC hB hR hLP hfin
   (try (conv => whnf)); (repeat ((first | refine qT ?_ | refine qF ?_ | refine qO ?_ | (with_reducible intro z hz); (first | (replace hz := hz (by omega); subst hz) | subst hz) | (refine CallV.mk _ (hC _ _ _ (PCw.of hO)) (fun js hjs => ?_); subst hjs) | (refine CallV.mk _ (hC _ _ _ (PCw.of hS)) (fun js hjs => ?_); subst hjs)); (try (conv => whnf))))
   exact hfin _ (ILes.refl _)
end Go.Proofs.Ytckamfmllkpafaa.Pw
