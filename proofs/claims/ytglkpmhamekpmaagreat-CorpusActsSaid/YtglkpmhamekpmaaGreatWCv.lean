/-
  The reference's Few, for trees.
-/
import Derived.Test.YtglkpmhamekpmaaGreatWCu
namespace Go.Proofs.YtglkpmhamekpmaaGreat.Po
open Go Go.Pv Go.RowKit
set_option linter.unusedSimpArgs false
open Lab Lcs Go.Proofs.YtglkpmhamekpmaaGreat Go.Proofs.YtglkpmhamekpmaaGreat.Pu
set_option maxRecDepth 10000
set_option maxHeartbeats 32000000
def s100 (s : Str) : Bool := decide (s.size ≤ 100)
def shortW (w : List Wd) : Bool := w.all (fun x => s100 x.text) && decide (w.length ≤ 300)
theorem all_take {α : Type} {f : α → Bool} {l : List α} {k : Nat} {x : α} (hx : l[k]? = some x) (h : (l.take k).all f = true) (hf : f x = true) : (l.take (k + 1)).all f = true := by
 rw [take_at hx, List.all_append, h]
 simp [hf]
theorem all_no {α : Type} {f : α → Bool} {l : List α} {k : Nat} {x : α} (hx : l[k]? = some x) (hf : f x = false) : l.all f = false := by
 rw [List.all_eq_false]
 exact ⟨x, List.mem_of_getElem? hx, by rw [hf]; decide⟩
def Fits (u : Ut) : Prop := ∀ x ∈ u.all, x.head.length ≤ maxLen ∧ x.words.length ≤ maxLen ∧ x.kids.length ≤ maxLen
theorem Fits.self {u : Ut} (h : Fits u) : u.head.length ≤ maxLen ∧ u.words.length ≤ maxLen ∧ u.kids.length ≤ maxLen := h u (by rw [Ut.all_eq]; exact List.mem_cons_self)
theorem kid_all' {u k : Ut} (hk : k ∈ u.kids) : ∀ x ∈ k.all, x ∈ u.all := by
 obtain ⟨j, hj, rfl⟩ := List.getElem_of_mem hk
 cases u with
 | mk id kind label head words kids => exact kid_all (List.getElem?_eq_getElem hj)
theorem Fits.kid {u k : Ut} (h : Fits u) (hk : k ∈ u.kids) : Fits k := fun x hx => h x (kid_all' hk x hx)
def fewB (x : Ut) : Bool := decide (x.label.size ≤ 30) && shortW x.head && shortW x.words
def Small (most : Nat) (u : Ut) : Prop := u.count ≤ most ∧ u.depth ≤ 20 ∧ u.all.all fewB = true
mutual
def sizeN : Ut → Int → Int → Int
 | .mk _ _ _ _ _ kids, d, m => if 20 < d then m + 1 else sizeL kids d m 1
def sizeL : List Ut → Int → Int → Int → Int
 | [], _, _, n => n
 | u :: r, d, m, n => if n ≤ m then sizeL r d m (n + sizeN u (d + 1) (m - n)) else n
end
theorem sizeN_eq (u : Ut) (d m : Int) : sizeN u d m = if 20 < d then m + 1 else sizeL u.kids d m 1 := by
 cases u; rw [sizeN]; rfl
mutual
theorem sizeN_pos : ∀ (u : Ut) (d m : Int), 0 ≤ m → 1 ≤ sizeN u d m ∧ sizeN u d m ≤ m + 1
 | .mk _ _ _ _ _ kids, d, m, hm => by
   rw [sizeN]
   split
   · omega
   · exact sizeL_pos kids d m 1 (by omega) (by omega)
theorem sizeL_pos : ∀ (l : List Ut) (d m n : Int), 1 ≤ n → n ≤ m + 1 → 1 ≤ sizeL l d m n ∧ sizeL l d m n ≤ m + 1
 | [], _, _, n, h1, h2 => by rw [sizeL]; omega
 | u :: r, d, m, n, h1, h2 => by
   rw [sizeL]
   split
   · have := sizeN_pos u (d + 1) (m - n) (by omega)
     exact sizeL_pos r d m _ (by omega) (by omega)
   · omega
end
mutual
theorem sizeN_few : ∀ (u : Ut) (d m : Int), 0 ≤ m → sizeN u d m ≤ m → sizeN u d m = u.count ∧ d + u.depth ≤ 20
 | .mk id kind label head words kids, d, m, hm, h => by
   rw [sizeN] at h ⊢
   split at h
   · omega
   · rename_i hd
     rw [if_neg hd]
     have := sizeL_few kids d m 1 (by omega) (by omega) h
     rw [count_mk, depth_mk]
     omega
theorem sizeL_few : ∀ (l : List Ut) (d m n : Int), 1 ≤ n → d ≤ 20 → sizeL l d m n ≤ m → sizeL l d m n = n + Ut.counts l ∧ d + Ut.depths l ≤ 20
 | [], d, m, n, h1, h2, h => by
   rw [sizeL] at h ⊢
   simp only [Ut.counts, Ut.depths]
   omega
 | u :: r, d, m, n, h1, h2, h => by
   rw [sizeL] at h ⊢
   split at h
   · rename_i hn
     rw [if_pos hn]
     have hp := sizeN_pos u (d + 1) (m - n) (by omega)
     have h3 := sizeL_few r d m (n + sizeN u (d + 1) (m - n)) (by omega) h2 h
     have h4 := sizeN_few u (d + 1) (m - n) (by omega) (by omega)
     simp only [Ut.counts, Ut.depths]
     omega
   · omega
end
theorem size_pc (N : Nat) : ∀ (u : Ut) (d m : Int), u.count ≤ N → 0 ≤ d → d ≤ 21 → 0 ≤ m → m ≤ 1000 → PC Tryz.prog env0 102 [uv u, .int .i64 d, .int .i64 m] [.int .i64 (sizeN u d m)] := by
 induction N with
 | zero => intro u d m h; have := count_pos u; omega
 | succ N ih =>
 intro u d m hN h0 hd hm0 hm
 have hue := uv_eq u
 have hcu := Ut.count_eq u
 have hkl := kids_counts u.kids
 have hml : (u.kids.map uv).length = u.kids.length := List.length_map _
 rw [sizeN_eq, hue]
 by_cases hlt : 20 < d
 · rw [if_pos hlt]
   refine PC.of_va (T := tb0) eqs_ok tb_ok rfl mixed Tryz.func102 rfl rfl (Nat.le_of_ble_eq_true rfl) ?_; intro Γ C WK LP fin h0 hW hC hB hR hLP hfin
   (try (conv => whnf)); (repeat ((first | refine qT ?_ | refine qF ?_ | refine qO ?_ | (with_reducible intro z hz); (first | (replace hz := hz (by omega); subst hz) | subst hz)); (try (conv => whnf))))
   exact hfin _ (ILes.refl _)
 · rw [if_neg hlt]
   refine PC.of_va (T := tb0) eqs_ok tb_ok rfl mixed Tryz.func102 rfl rfl (Nat.le_of_ble_eq_true rfl) ?_; intro Γ C WK LP fin h0 hW hC hB hR hLP hfin
   (try (conv => whnf)); (repeat ((first | refine qT ?_ | refine qF ?_ | refine qO ?_ | (with_reducible intro z hz); (first | (replace hz := hz (by omega); subst hz) | subst hz)); (try (conv => whnf))))
   refine hLP _ _ _ (Nat × Int) (fun p => ⟨[(1, .imm (.int .i64 d)), (2, .imm (.int .i64 m)), (3, .ptr 0 1 0), (7, .imm (.int .i64 p.2)), (8, .imm (.int .i64 (p.1 : Nat)))], [.box 1 [.imm (.int .i64 u.id.x), .imm (.int .i64 u.id.y), .imm (.int .i64 u.id.z), .imm (.int .i64 u.kind), .imm (.str u.label), .imm (.sl 4 (u.head.map wdv)), .imm (.sl 4 (u.words.map wdv)), .imm (.sl 8 (u.kids.map uv))]]⟩) (fun p => p.1 ≤ u.kids.length ∧ p.1 + 1 ≤ p.2 ∧ p.2 ≤ m + 1 ∧ sizeL (u.kids.drop p.1) d m p.2 = sizeL u.kids d m 1) (fun p => u.kids.length - p.1) (0, 1) ⟨Nat.zero_le _, by dsimp only; omega, by dsimp only; omega, rfl⟩ (qSL 1 rfl rfl) ?_
   rintro ⟨k, n⟩ ⟨hk, hkn, hn, hinv⟩
   dsimp only at hk hkn hn hinv ⊢
   have hho := Nat.lt_or_ge k u.kids.length
   cases hho with
   | inl hlt2 =>
     obtain ⟨x, hx⟩ : ∃ x, u.kids[k]? = some x := ⟨u.kids[k], List.getElem?_eq_getElem hlt2⟩
     have hdrop : u.kids.drop k = x :: u.kids.drop (k + 1) := by
       rw [List.drop_eq_getElem_cons hlt2]
       congr 1
       exact (List.getElem?_eq_some_iff.1 hx).2
     rw [hdrop, sizeL] at hinv
     by_cases hnm : n ≤ m
     · have hux := uv_eq x
       have hp := sizeN_pos x (d + 1) (m - n) (by omega)
       have hkc := kid_lt' hx
       have hI := ih x (d + 1) (m - n) (by omega) (by omega) (by omega) (by omega) (by omega)
       rw [if_pos hnm] at hinv
       generalize sizeN x (d + 1) (m - n) = q at hI hp hinv
       rw [hux] at hI
       (try (conv => whnf)); (repeat ((first | refine qT ?_ | refine qF ?_ | refine qO ?_ | (with_reducible intro z hz); (first | (replace hz := hz (by omega); subst hz) | subst hz)); (try (conv => whnf))))
       refine Idx.mk k (uv x) _ rfl (by simp [hx]) (by rw [hux]; try rfl) ?_
       (try (conv => whnf)); (repeat ((first | refine qT ?_ | refine qF ?_ | refine qO ?_ | (with_reducible intro z hz); (first | (replace hz := hz (by omega); subst hz) | subst hz) | (refine CallV.mk _ (hC _ _ _ (PCw.of hI)) (fun js hjs => ?_); subst hjs)); (try (conv => whnf))))
       exact ⟨(k + 1, n + q), ⟨by dsimp only; omega, by dsimp only; omega, by dsimp only; omega, hinv⟩, by dsimp only; omega, (qSL 1 rfl rfl)⟩
     · rw [if_neg hnm] at hinv
       (try (conv => whnf)); (repeat ((first | refine qT ?_ | refine qF ?_ | refine qO ?_ | (with_reducible intro z hz); (first | (replace hz := hz (by omega); subst hz) | subst hz)); (try (conv => whnf))))
       refine hfin _ ?_
       rw [← hinv]
       exact ILes.refl _
   | inr hge =>
     rw [List.drop_eq_nil_of_le hge, sizeL] at hinv
     (try (conv => whnf)); (repeat ((first | refine qT ?_ | refine qF ?_ | refine qO ?_ | (with_reducible intro z hz); (first | (replace hz := hz (by omega); subst hz) | subst hz)); (try (conv => whnf))))
     refine hfin _ ?_
     rw [← hinv]
     exact ILes.refl _
theorem short6_pc (l : List Wd) (hl : l.length ≤ 9223372036854775807) : PC Tryz.prog env0 153 [.sl 4 (l.map wdv)] [.bool (shortW l)] := by
 have h1 : (l.map wdv).length = l.length := List.length_map _
 refine PC.of_va (T := tb0) eqs_ok tb_ok rfl mixed Tryz.func153 rfl rfl (Nat.le_of_ble_eq_true rfl) ?_; intro Γ C WK LP fin h0 hW hC hB hR hLP hfin
 (try (conv => whnf)); (repeat ((first | refine qT ?_ | refine qF ?_ | refine qO ?_ | (with_reducible intro z hz); (first | (replace hz := hz (by omega); subst hz) | subst hz)); (try (conv => whnf))))
 refine hLP _ _ _ Nat (fun k => ⟨[(0, .imm (.sl 4 (l.map wdv))), (3, .imm (.int .i64 (k : Nat)))], []⟩) (fun k => k ≤ l.length ∧ (l.take k).all (fun x => s100 x.text) = true) (fun k => l.length - k) 0 ⟨Nat.zero_le _, rfl⟩ (qSL 0 rfl rfl) ?_
 rintro k ⟨hk, hpre⟩
 have hho := Nat.lt_or_ge k l.length
 cases hho with
 | inl hlt =>
   obtain ⟨y, hy⟩ : ∃ y, l[k]? = some y := ⟨l[k], List.getElem?_eq_getElem hlt⟩
   by_cases hs : y.text.size ≤ 100
   · (try (conv => whnf)); (repeat ((first | refine qT ?_ | refine qF ?_ | refine qO ?_ | (with_reducible intro z hz); (first | (replace hz := hz (by omega); subst hz) | subst hz)); (try (conv => whnf))))
     refine Idx.mk k (wdv y) _ rfl (by simp [hy]) rfl ?_
     (try (conv => whnf)); (repeat ((first | refine qT ?_ | refine qF ?_ | refine qO ?_ | (with_reducible intro z hz); (first | (replace hz := hz (by omega); subst hz) | subst hz)); (try (conv => whnf))))
     exact ⟨k + 1, ⟨by omega, all_take hy hpre (by unfold s100; exact decide_eq_true hs)⟩, by dsimp only; omega, (qSL 0 rfl rfl)⟩
   · rw [show shortW l = false by unfold shortW; rw [all_no hy (by unfold s100; exact decide_eq_false hs)]; rfl] at hfin
     (try (conv => whnf)); (repeat ((first | refine qT ?_ | refine qF ?_ | refine qO ?_ | (with_reducible intro z hz); (first | (replace hz := hz (by omega); subst hz) | subst hz)); (try (conv => whnf))))
     refine Idx.mk k (wdv y) _ rfl (by simp [hy]) rfl ?_
     (try (conv => whnf)); (repeat ((first | refine qT ?_ | refine qF ?_ | refine qO ?_ | (with_reducible intro z hz); (first | (replace hz := hz (by omega); subst hz) | subst hz)); (try (conv => whnf))))
     exact hfin _ (ILes.refl _)
 | inr hge =>
   obtain rfl : k = l.length := by omega
   rw [List.take_length] at hpre
   rw [show shortW l = decide (l.length ≤ 300) by unfold shortW; rw [hpre]; rfl] at hfin
   by_cases hc : l.length ≤ 300
   · rw [decide_eq_true hc] at hfin
     (try (conv => whnf)); (repeat ((first | refine qT ?_ | refine qF ?_ | refine qO ?_ | (with_reducible intro z hz); (first | (replace hz := hz (by omega); subst hz) | subst hz)); (try (conv => whnf))))
     exact hfin _ (ILes.refl _)
   · rw [decide_eq_false hc] at hfin
     (try (conv => whnf)); (repeat ((first | refine qT ?_ | refine qF ?_ | refine qO ?_ | (with_reducible intro z hz); (first | (replace hz := hz (by omega); subst hz) | subst hz)); (try (conv => whnf))))
     exact hfin _ (ILes.refl _)
theorem all_cons (u : Ut) (p : Ut → Bool) : u.all.all p = (p u && (Ut.alls u.kids).all p) := by rw [Ut.all_eq, List.all_cons]
theorem alls_all (p : Ut → Bool) : ∀ l : List Ut, (Ut.alls l).all p = l.all fun x => x.all.all p
 | [] => rfl
 | x :: r => by unfold Ut.alls; rw [List.all_append, alls_all p r, List.all_cons]
theorem words6_pc (N : Nat) : ∀ u : Ut, u.count ≤ N → Fits u → PC Tryz.prog env0 103 [uv u] [.bool (u.all.all fewB)] := by
 induction N with
 | zero => intro u h; have := count_pos u; omega
 | succ N ih =>
 intro u hN hf
 have hue := uv_eq u
 obtain ⟨f1, f2, f3⟩ := hf.self
 have hH := short6_pc u.head (by unfold maxLen at f1; omega)
 have hWd := short6_pc u.words (by unfold maxLen at f2; omega)
 have hkl : (u.kids.map uv).length = u.kids.length := List.length_map _
 rw [all_cons, alls_all]
 unfold maxLen at f3
 cases hb : fewB u with
 | false =>
   rw [Bool.false_and, hue]
   unfold fewB at hb
   by_cases hl : u.label.size ≤ 30
   · rw [decide_eq_true hl, Bool.true_and] at hb
     cases h1 : shortW u.head with
     | false =>
       rw [h1] at hH
       refine PC.of_va (T := tb0) eqs_ok tb_ok rfl mixed Tryz.func103 rfl rfl (Nat.le_of_ble_eq_true rfl) ?_; intro Γ C WK LP fin h0 hW hC hB hR hLP hfin
       (try (conv => whnf)); (repeat ((first | refine qT ?_ | refine qF ?_ | refine qO ?_ | (with_reducible intro z hz); (first | (replace hz := hz (by omega); subst hz) | subst hz) | (refine CallV.mk _ (hC _ _ _ (PCw.of hH)) (fun js hjs => ?_); subst hjs)); (try (conv => whnf))))
       exact hfin _ (ILes.refl _)
     | true =>
       rw [h1, Bool.true_and] at hb
       rw [h1] at hH
       rw [hb] at hWd
       refine PC.of_va (T := tb0) eqs_ok tb_ok rfl mixed Tryz.func103 rfl rfl (Nat.le_of_ble_eq_true rfl) ?_; intro Γ C WK LP fin h0 hW hC hB hR hLP hfin
       (try (conv => whnf)); (repeat ((first | refine qT ?_ | refine qF ?_ | refine qO ?_ | (with_reducible intro z hz); (first | (replace hz := hz (by omega); subst hz) | subst hz) | (refine CallV.mk _ (hC _ _ _ (PCw.of hH)) (fun js hjs => ?_); subst hjs) | (refine CallV.mk _ (hC _ _ _ (PCw.of hWd)) (fun js hjs => ?_); subst hjs)); (try (conv => whnf))))
       exact hfin _ (ILes.refl _)
   · refine PC.of_va (T := tb0) eqs_ok tb_ok rfl mixed Tryz.func103 rfl rfl (Nat.le_of_ble_eq_true rfl) ?_; intro Γ C WK LP fin h0 hW hC hB hR hLP hfin
     (try (conv => whnf)); (repeat ((first | refine qT ?_ | refine qF ?_ | refine qO ?_ | (with_reducible intro z hz); (first | (replace hz := hz (by omega); subst hz) | subst hz)); (try (conv => whnf))))
     exact hfin _ (ILes.refl _)
 | true =>
   rw [Bool.true_and, hue]
   unfold fewB at hb
   rw [Bool.and_eq_true, Bool.and_eq_true, decide_eq_true_eq] at hb
   obtain ⟨⟨hl, h1⟩, h2⟩ := hb
   rw [h1] at hH
   rw [h2] at hWd
   refine PC.of_va (T := tb0) eqs_ok tb_ok rfl mixed Tryz.func103 rfl rfl (Nat.le_of_ble_eq_true rfl) ?_; intro Γ C WK LP fin h0 hW hC hB hR hLP hfin
   (try (conv => whnf)); (repeat ((first | refine qT ?_ | refine qF ?_ | refine qO ?_ | (with_reducible intro z hz); (first | (replace hz := hz (by omega); subst hz) | subst hz) | (refine CallV.mk _ (hC _ _ _ (PCw.of hH)) (fun js hjs => ?_); subst hjs) | (refine CallV.mk _ (hC _ _ _ (PCw.of hWd)) (fun js hjs => ?_); subst hjs)); (try (conv => whnf))))
   refine hLP _ _ _ Nat (fun k => ⟨[(1, .ptr 0 1 0), (3, .imm (.int .i64 (k : Nat)))], [.box 1 [.imm (.int .i64 u.id.x), .imm (.int .i64 u.id.y), .imm (.int .i64 u.id.z), .imm (.int .i64 u.kind), .imm (.str u.label), .imm (.sl 4 (u.head.map wdv)), .imm (.sl 4 (u.words.map wdv)), .imm (.sl 8 (u.kids.map uv))]]⟩) (fun k => k ≤ u.kids.length ∧ (u.kids.take k).all (fun x => x.all.all fewB) = true) (fun k => u.kids.length - k) 0 ⟨Nat.zero_le _, rfl⟩ (qSL 1 rfl rfl) ?_
   rintro k ⟨hk, hpre⟩
   have hho := Nat.lt_or_ge k u.kids.length
   cases hho with
   | inl hlt =>
     obtain ⟨x, hx⟩ : ∃ x, u.kids[k]? = some x := ⟨u.kids[k], List.getElem?_eq_getElem hlt⟩
     have hc := kid_lt' hx
     have hux := uv_eq x
     have hI := ih x (by omega) (hf.kid (List.mem_of_getElem? hx))
     rw [hux] at hI
     cases hb : x.all.all fewB with
     | true =>
       rw [hb] at hI
       (try (conv => whnf)); (repeat ((first | refine qT ?_ | refine qF ?_ | refine qO ?_ | (with_reducible intro z hz); (first | (replace hz := hz (by omega); subst hz) | subst hz)); (try (conv => whnf))))
       refine Idx.mk k (uv x) _ rfl (by simp [hx]) (by rw [hux]; try rfl) ?_
       (try (conv => whnf)); (repeat ((first | refine qT ?_ | refine qF ?_ | refine qO ?_ | (with_reducible intro z hz); (first | (replace hz := hz (by omega); subst hz) | subst hz) | (refine CallV.mk _ (hC _ _ _ (PCw.of hI)) (fun js hjs => ?_); subst hjs)); (try (conv => whnf))))
       exact ⟨k + 1, ⟨by omega, all_take hx hpre hb⟩, by dsimp only; omega, (qSL 1 rfl rfl)⟩
     | false =>
       rw [hb] at hI
       rw [show (u.kids.all fun x => x.all.all fewB) = false from all_no hx hb] at hfin
       (try (conv => whnf)); (repeat ((first | refine qT ?_ | refine qF ?_ | refine qO ?_ | (with_reducible intro z hz); (first | (replace hz := hz (by omega); subst hz) | subst hz)); (try (conv => whnf))))
       refine Idx.mk k (uv x) _ rfl (by simp [hx]) (by rw [hux]; try rfl) ?_
       (try (conv => whnf)); (repeat ((first | refine qT ?_ | refine qF ?_ | refine qO ?_ | (with_reducible intro z hz); (first | (replace hz := hz (by omega); subst hz) | subst hz) | (refine CallV.mk _ (hC _ _ _ (PCw.of hI)) (fun js hjs => ?_); subst hjs)); (try (conv => whnf))))
       exact hfin _ (ILes.refl _)
   | inr hge =>
     obtain rfl : k = u.kids.length := by omega
     rw [List.take_length] at hpre
     rw [hpre] at hfin
     (try (conv => whnf)); (repeat ((first | refine qT ?_ | refine qF ?_ | refine qO ?_ | (with_reducible intro z hz); (first | (replace hz := hz (by omega); subst hz) | subst hz)); (try (conv => whnf))))
     exact hfin _ (ILes.refl _)
def fewU (u : Ut) (m : Int) : Bool := decide (sizeN u 0 m ≤ m) && u.all.all fewB
theorem few_small {u : Ut} {m : Nat} (h : fewU u m = true) : Small m u := by
 unfold fewU at h
 simp only [Bool.and_eq_true, decide_eq_true_eq] at h
 obtain ⟨h1, h2⟩ := h
 obtain ⟨h3, h4⟩ := sizeN_few u 0 m (by omega) h1
 exact ⟨by omega, by omega, h2⟩
theorem few6_pc (u : Ut) (m : Int) (hf : Fits u) (h0 : 0 ≤ m) (hm : m ≤ 1000) : PC Tryz.prog env0 73 [uv u, .int .i64 m] [.bool (fewU u m)] := by
 have hS := size_pc u.count u 0 m (Nat.le_refl _) (by omega) (by omega) h0 hm
 have hWo := words6_pc u.count u (Nat.le_refl _) hf
 have hue := uv_eq u
 unfold fewU
 rw [hue] at hS hWo ⊢
 generalize u.all.all fewB = b at hWo ⊢
 generalize sizeN u 0 m = q at hS ⊢
 by_cases hz : q ≤ m
 · rw [decide_eq_true hz, Bool.true_and]
   refine PC.of_va (T := tb0) eqs_ok tb_ok rfl mixed Tryz.func73 rfl rfl (Nat.le_of_ble_eq_true rfl) ?_; intro Γ C WK LP fin h0 hW hC hB hR hLP hfin
   (try (conv => whnf)); (repeat ((first | refine qT ?_ | refine qF ?_ | refine qO ?_ | (with_reducible intro z hz); (first | (replace hz := hz (by omega); subst hz) | subst hz) | (refine CallV.mk _ (hC _ _ _ (PCw.of hS)) (fun js hjs => ?_); subst hjs) | (refine CallV.mk _ (hC _ _ _ (PCw.of hWo)) (fun js hjs => ?_); subst hjs)); (try (conv => whnf))))
   exact hfin _ (ILes.refl _)
 · rw [decide_eq_false hz, Bool.false_and]
   refine PC.of_va (T := tb0) eqs_ok tb_ok rfl mixed Tryz.func73 rfl rfl (Nat.le_of_ble_eq_true rfl) ?_; intro Γ C WK LP fin h0 hW hC hB hR hLP hfin
   (try (conv => whnf)); (repeat ((first | refine qT ?_ | refine qF ?_ | refine qO ?_ | (with_reducible intro z hz); (first | (replace hz := hz (by omega); subst hz) | subst hz) | (refine CallV.mk _ (hC _ _ _ (PCw.of hS)) (fun js hjs => ?_); subst hjs)); (try (conv => whnf))))
   exact hfin _ (ILes.refl _)
end Go.Proofs.YtglkpmhamekpmaaGreat.Po
