/-
  The reference's Big: a tree that is small.
-/
import Derived.Test.YtdkalehijilchaaWCd
namespace Go.Proofs.Ytdkalehijilchaa.Pb
open Go Go.Pv Go.RowKit
set_option linter.unusedSimpArgs false
open Lab Lcs Go.Proofs.Ytdkalehijilchaa Go.Proofs.Ytdkalehijilchaa.Pu Go.Proofs.Ytdkalehijilchaa.Pt
set_option maxRecDepth 10000
set_option maxHeartbeats 8000000
mutual
def cntN : Ut → Int → Int → Int
 | .mk _ _ _ _ _ kids, d, m => if d < 0 then m + 1 else cntL kids d m 1
def cntL : List Ut → Int → Int → Int → Int
 | [], _, _, n => n
 | u :: r, d, m, n => if n ≤ m then cntL r d m (n + cntN u (d - 1) (m - n)) else n
end
theorem cntN_eq (u : Ut) (d m : Int) : cntN u d m = if d < 0 then m + 1 else cntL u.kids d m 1 := by
 cases u; rw [cntN]; rfl
mutual
theorem cntN_pos : ∀ (u : Ut) (d m : Int), 0 ≤ m → 1 ≤ cntN u d m ∧ cntN u d m ≤ m + 1
 | .mk _ _ _ _ _ kids, d, m, hm => by
   rw [cntN]
   split
   · omega
   · exact cntL_pos kids d m 1 (by omega) (by omega)
theorem cntL_pos : ∀ (l : List Ut) (d m n : Int), 1 ≤ n → n ≤ m + 1 → 1 ≤ cntL l d m n ∧ cntL l d m n ≤ m + 1
 | [], _, _, n, h1, h2 => by rw [cntL]; omega
 | u :: r, d, m, n, h1, h2 => by
   rw [cntL]
   split
   · have := cntN_pos u (d - 1) (m - n) (by omega)
     exact cntL_pos r d m _ (by omega) (by omega)
   · omega
end
mutual
theorem cntN_few : ∀ (u : Ut) (d m : Int), 0 ≤ m → cntN u d m ≤ m → cntN u d m = u.count
 | .mk id kind label head words kids, d, m, hm, h => by
   rw [cntN] at h ⊢
   split at h
   · omega
   · rename_i hd
     rw [if_neg hd]
     have := cntL_few kids d m 1 (by omega) h
     rw [count_mk]
     omega
theorem cntL_few : ∀ (l : List Ut) (d m n : Int), 1 ≤ n → cntL l d m n ≤ m → cntL l d m n = n + Ut.counts l
 | [], d, m, n, h1, h => by
   rw [cntL] at h ⊢
   simp only [Ut.counts]
   omega
 | u :: r, d, m, n, h1, h => by
   rw [cntL] at h ⊢
   split at h
   · rename_i hn
     rw [if_pos hn]
     have hp := cntN_pos u (d - 1) (m - n) (by omega)
     have h3 := cntL_few r d m (n + cntN u (d - 1) (m - n)) (by omega) h
     have h4 := cntN_few u (d - 1) (m - n) (by omega) (by omega)
     simp only [Ut.counts]
     omega
   · omega
end
theorem cnt_pc (N : Nat) : ∀ (u : Ut) (d m : Int), u.count ≤ N → -1 ≤ d → d ≤ 20 → 0 ≤ m → m ≤ 1000 → PC Try.prog env0 22 [uv u, .int .i64 m, .int .i64 d] [.int .i64 (cntN u d m)] := by
 induction N with
 | zero => intro u d m h; have := count_pos u; omega
 | succ N ih =>
 intro u d m hN h0 hd hm0 hm
 have hue := uv_eq u
 have hcu := Ut.count_eq u
 have hkl := kids_counts u.kids
 have hml : (u.kids.map uv).length = u.kids.length := List.length_map _
 rw [cntN_eq, hue]
 by_cases hlt : d < 0
 · rw [if_pos hlt]
   refine PC.of_va (T := tb0) eqs_ok tb_ok rfl mixed Try.func22 rfl rfl (Nat.le_of_ble_eq_true rfl) ?_; intro Γ C WK LP fin h0 hW hC hB hR hLP hfin
   (try (conv => whnf)); (repeat ((first | refine qT ?_ | refine qF ?_ | refine qO ?_ | (with_reducible intro z hz); (first | (replace hz := hz (by omega); subst hz) | subst hz)); (try (conv => whnf))))
   exact hfin _ (ILes.refl _)
 · rw [if_neg hlt]
   refine PC.of_va (T := tb0) eqs_ok tb_ok rfl mixed Try.func22 rfl rfl (Nat.le_of_ble_eq_true rfl) ?_; intro Γ C WK LP fin h0 hW hC hB hR hLP hfin
   (try (conv => whnf)); (repeat ((first | refine qT ?_ | refine qF ?_ | refine qO ?_ | (with_reducible intro z hz); (first | (replace hz := hz (by omega); subst hz) | subst hz)); (try (conv => whnf))))
   refine hLP _ _ _ (Nat × Int) (fun p => ⟨[(1, .imm (.int .i64 m)), (2, .imm (.int .i64 d)), (3, .ptr 0 1 0), (7, .imm (.int .i64 p.2)), (8, .imm (.int .i64 (p.1 : Nat)))], [.box 1 [.imm (.int .i64 u.id.x), .imm (.int .i64 u.id.y), .imm (.int .i64 u.id.z), .imm (.int .i64 u.kind), .imm (.str u.label), .imm (.sl 4 (u.head.map wdv)), .imm (.sl 4 (u.words.map wdv)), .imm (.sl 8 (u.kids.map uv))]]⟩) (fun p => p.1 ≤ u.kids.length ∧ p.1 + 1 ≤ p.2 ∧ p.2 ≤ m + 1 ∧ cntL (u.kids.drop p.1) d m p.2 = cntL u.kids d m 1) (fun p => u.kids.length - p.1) (0, 1) ⟨Nat.zero_le _, by dsimp only; omega, by dsimp only; omega, rfl⟩ (qSL 1 rfl rfl) ?_
   rintro ⟨k, n⟩ ⟨hk, hkn, hn, hinv⟩
   dsimp only at hk hkn hn hinv ⊢
   have hho := Nat.lt_or_ge k u.kids.length
   cases hho with
   | inl hlt2 =>
     obtain ⟨x, hx⟩ : ∃ x, u.kids[k]? = some x := ⟨u.kids[k], List.getElem?_eq_getElem hlt2⟩
     have hdrop : u.kids.drop k = x :: u.kids.drop (k + 1) := by
       rw [List.drop_eq_getElem_cons hlt2]
       congr 1
       exact (List.getElem?_eq_some_iff.1 hx).2
     rw [hdrop, cntL] at hinv
     by_cases hnm : n ≤ m
     · have hux := uv_eq x
       have hp := cntN_pos x (d - 1) (m - n) (by omega)
       have hkc := kid_lt' hx
       have hI := ih x (d - 1) (m - n) (by omega) (by omega) (by omega) (by omega) (by omega)
       rw [if_pos hnm] at hinv
       generalize cntN x (d - 1) (m - n) = q at hI hp hinv
       rw [hux] at hI
       (try (conv => whnf)); (repeat ((first | refine qT ?_ | refine qF ?_ | refine qO ?_ | (with_reducible intro z hz); (first | (replace hz := hz (by omega); subst hz) | subst hz)); (try (conv => whnf))))
       refine Idx.mk k (uv x) _ rfl (by simp [hx]) (by rw [hux]; try rfl) ?_
       (try (conv => whnf)); (repeat ((first | refine qT ?_ | refine qF ?_ | refine qO ?_ | (with_reducible intro z hz); (first | (replace hz := hz (by omega); subst hz) | subst hz) | (refine CallV.mk _ (hC _ _ _ (PCw.of hI)) (fun js hjs => ?_); subst hjs)); (try (conv => whnf))))
       exact ⟨(k + 1, n + q), ⟨by dsimp only; omega, by dsimp only; omega, by dsimp only; omega, hinv⟩, by dsimp only; omega, (qSL 1 rfl rfl)⟩
     · rw [if_neg hnm] at hinv
       (try (conv => whnf)); (repeat ((first | refine qT ?_ | refine qF ?_ | refine qO ?_ | (with_reducible intro z hz); (first | (replace hz := hz (by omega); subst hz) | subst hz)); (try (conv => whnf))))
       refine hfin _ ?_
       rw [← hinv]
       exact ILes.refl _
   | inr hge =>
     rw [List.drop_eq_nil_of_le hge, cntL] at hinv
     (try (conv => whnf)); (repeat ((first | refine qT ?_ | refine qF ?_ | refine qO ?_ | (with_reducible intro z hz); (first | (replace hz := hz (by omega); subst hz) | subst hz)); (try (conv => whnf))))
     refine hfin _ ?_
     rw [← hinv]
     exact ILes.refl _
def wy1 (u : Ut) : Bool := decide (300 < u.head.length) || (decide (300 < u.words.length) || (decide (100 < u.label.size) || (u.head.any (fun a => decide (100 < a.text.size)) || u.words.any (fun a => decide (100 < a.text.size)))))
mutual
def wyR : Ut → Bool
 | .mk id kind label head words kids => wy1 (.mk id kind label head words kids) || wyRs kids
def wyRs : List Ut → Bool
 | [] => false
 | u :: r => wyR u || wyRs r
end
theorem wyR_eq (u : Ut) : wyR u = (wy1 u || wyRs u.kids) := by cases u; rw [wyR]; rfl
theorem wyRs_app : ∀ a b : List Ut, wyRs (a ++ b) = (wyRs a || wyRs b)
 | [], b => by simp [wyRs]
 | u :: a, b => by simp [wyRs, wyRs_app a b, Bool.or_assoc]
theorem wyRs_yes {l : List Ut} {k : Nat} {x : Ut} (hx : l[k]? = some x) (h : wyR x = true) : wyRs l = true := by
 obtain ⟨hk, he⟩ := List.getElem?_eq_some_iff.1 hx
 have : l = l.take k ++ x :: l.drop (k + 1) := by rw [← he, ← List.drop_eq_getElem_cons hk, List.take_append_drop]
 rw [this, wyRs_app]
 simp [wyRs, h]
mutual
theorem wyR_all : ∀ u : Ut, wyR u = u.all.any wy1
 | .mk id kind label head words kids => by
   rw [wyR, wyRs_all kids, Ut.all_eq, List.any_cons]
   rfl
theorem wyRs_all : ∀ l : List Ut, wyRs l = (Ut.alls l).any wy1
 | [] => by simp [wyRs, Ut.alls]
 | u :: r => by rw [wyRs, Ut.alls, List.any_append, wyR_all u, wyRs_all r]
end
theorem wy_pc (n : Nat) : ∀ u : Ut, u.count ≤ n → n ≤ 1000 → PC Try.prog env0 23 [uv u] [.bool (wyR u)] := by
 induction n with
 | zero => intro u h; have := count_pos u; omega
 | succ n ih =>
 intro u hn hM
 have hue := uv_eq u
 have hcu := Ut.count_eq u
 have hkl := kids_counts u.kids
 have hml : (u.kids.map uv).length = u.kids.length := List.length_map _
 have hm1 : (u.head.map wdv).length = u.head.length := List.length_map _
 have hm2 : (u.words.map wdv).length = u.words.length := List.length_map _
 rw [wyR_eq]
 unfold wy1
 rw [hue]
 by_cases h1 : 300 < u.head.length
 · rw [decide_eq_true h1, Bool.true_or, Bool.true_or]
   refine PC.of_va (T := tb0) eqs_ok tb_ok rfl mixed Try.func23 rfl rfl (Nat.le_of_ble_eq_true rfl) ?_; intro Γ C WK LP fin h0 hW hC hB hR hLP hfin
   (try (conv => whnf)); (repeat ((first | refine qT ?_ | refine qF ?_ | refine qO ?_ | (with_reducible intro z hz); (first | (replace hz := hz (by omega); subst hz) | subst hz)); (try (conv => whnf))))
   exact hfin _ (ILes.refl _)
 rw [decide_eq_false h1, Bool.false_or]
 by_cases h2 : 300 < u.words.length
 · rw [decide_eq_true h2, Bool.true_or, Bool.true_or]
   refine PC.of_va (T := tb0) eqs_ok tb_ok rfl mixed Try.func23 rfl rfl (Nat.le_of_ble_eq_true rfl) ?_; intro Γ C WK LP fin h0 hW hC hB hR hLP hfin
   (try (conv => whnf)); (repeat ((first | refine qT ?_ | refine qF ?_ | refine qO ?_ | (with_reducible intro z hz); (first | (replace hz := hz (by omega); subst hz) | subst hz)); (try (conv => whnf))))
   exact hfin _ (ILes.refl _)
 rw [decide_eq_false h2, Bool.false_or]
 by_cases h3 : 100 < u.label.size
 · rw [decide_eq_true h3, Bool.true_or, Bool.true_or]
   refine PC.of_va (T := tb0) eqs_ok tb_ok rfl mixed Try.func23 rfl rfl (Nat.le_of_ble_eq_true rfl) ?_; intro Γ C WK LP fin h0 hW hC hB hR hLP hfin
   (try (conv => whnf)); (repeat ((first | refine qT ?_ | refine qF ?_ | refine qO ?_ | (with_reducible intro z hz); (first | (replace hz := hz (by omega); subst hz) | subst hz)); (try (conv => whnf))))
   exact hfin _ (ILes.refl _)
 rw [decide_eq_false h3, Bool.false_or]
 refine PC.of_va (T := tb0) eqs_ok tb_ok rfl mixed Try.func23 rfl rfl (Nat.le_of_ble_eq_true rfl) ?_; intro Γ C WK LP fin h0 hW hC hB hR hLP hfin
 (try (conv => whnf)); (repeat ((first | refine qT ?_ | refine qF ?_ | refine qO ?_ | (with_reducible intro z hz); (first | (replace hz := hz (by omega); subst hz) | subst hz)); (try (conv => whnf))))
 refine hLP _ _ _ Nat (fun k => ⟨[(1, .ptr 0 1 0), (3, .imm (.int .i64 (k : Nat)))], [.box 1 [.imm (.int .i64 u.id.x), .imm (.int .i64 u.id.y), .imm (.int .i64 u.id.z), .imm (.int .i64 u.kind), .imm (.str u.label), .imm (.sl 4 (u.head.map wdv)), .imm (.sl 4 (u.words.map wdv)), .imm (.sl 8 (u.kids.map uv))]]⟩) (fun k => k ≤ u.head.length ∧ ∀ a ∈ u.head.take k, decide (100 < a.text.size) = false) (fun k => u.head.length - k) 0 ⟨Nat.zero_le _, by simp⟩ (qSL 1 rfl rfl) ?_
 rintro k ⟨hk, hp⟩
 have hho := Nat.lt_or_ge k u.head.length
 cases hho with
 | inl hlt =>
   obtain ⟨a, ha⟩ : ∃ a, u.head[k]? = some a := ⟨u.head[k], List.getElem?_eq_getElem hlt⟩
   by_cases hw : 100 < a.text.size
   · have hyes : (u.head.any fun a => decide (100 < a.text.size)) = true := List.any_eq_true.2 ⟨a, List.mem_of_getElem? ha, decide_eq_true hw⟩
     rw [hyes] at hfin
     simp only [Bool.true_or, Bool.or_true] at hfin
     (try (conv => whnf)); (repeat ((first | refine qT ?_ | refine qF ?_ | refine qO ?_ | (with_reducible intro z hz); (first | (replace hz := hz (by omega); subst hz) | subst hz)); (try (conv => whnf))))
     refine Idx.mk k (wdv a) _ rfl (by simp [ha]) rfl ?_
     (try (conv => whnf)); (repeat ((first | refine qT ?_ | refine qF ?_ | refine qO ?_ | (with_reducible intro z hz); (first | (replace hz := hz (by omega); subst hz) | subst hz)); (try (conv => whnf))))
     exact hfin _ (ILes.refl _)
   · (try (conv => whnf)); (repeat ((first | refine qT ?_ | refine qF ?_ | refine qO ?_ | (with_reducible intro z hz); (first | (replace hz := hz (by omega); subst hz) | subst hz)); (try (conv => whnf))))
     refine Idx.mk k (wdv a) _ rfl (by simp [ha]) rfl ?_
     (try (conv => whnf)); (repeat ((first | refine qT ?_ | refine qF ?_ | refine qO ?_ | (with_reducible intro z hz); (first | (replace hz := hz (by omega); subst hz) | subst hz)); (try (conv => whnf))))
     exact ⟨k + 1, ⟨by omega, fun y hy => by
       rw [take_at ha, List.mem_append] at hy
       rcases hy with hy | hy
       · exact hp y hy
       · rw [List.mem_singleton.1 hy]; exact decide_eq_false hw⟩, by dsimp only; omega, (qSL 1 rfl rfl)⟩
 | inr hge =>
   obtain rfl : k = u.head.length := by omega
   rw [List.take_length] at hp
   have hno : (u.head.any fun a => decide (100 < a.text.size)) = false := List.any_eq_false.2 fun y hy => by rw [hp y hy]; decide
   rw [hno, Bool.false_or] at hfin
   clear hp hno
   (try (conv => whnf)); (repeat ((first | refine qT ?_ | refine qF ?_ | refine qO ?_ | (with_reducible intro z hz); (first | (replace hz := hz (by omega); subst hz) | subst hz)); (try (conv => whnf))))
   refine hLP _ _ _ Nat (fun k => ⟨[(1, .ptr 0 1 0), (4, .imm (.int .i64 (k : Nat)))], [.box 1 [.imm (.int .i64 u.id.x), .imm (.int .i64 u.id.y), .imm (.int .i64 u.id.z), .imm (.int .i64 u.kind), .imm (.str u.label), .imm (.sl 4 (u.head.map wdv)), .imm (.sl 4 (u.words.map wdv)), .imm (.sl 8 (u.kids.map uv))]]⟩) (fun k => k ≤ u.words.length ∧ ∀ a ∈ u.words.take k, decide (100 < a.text.size) = false) (fun k => u.words.length - k) 0 ⟨Nat.zero_le _, by simp⟩ (qSL 1 rfl rfl) ?_
   rintro k ⟨hk, hp⟩
   have hho := Nat.lt_or_ge k u.words.length
   cases hho with
   | inl hlt =>
     obtain ⟨a, ha⟩ : ∃ a, u.words[k]? = some a := ⟨u.words[k], List.getElem?_eq_getElem hlt⟩
     by_cases hw : 100 < a.text.size
     · have hyes : (u.words.any fun a => decide (100 < a.text.size)) = true := List.any_eq_true.2 ⟨a, List.mem_of_getElem? ha, decide_eq_true hw⟩
       rw [hyes] at hfin
       simp only [Bool.true_or, Bool.or_true] at hfin
       (try (conv => whnf)); (repeat ((first | refine qT ?_ | refine qF ?_ | refine qO ?_ | (with_reducible intro z hz); (first | (replace hz := hz (by omega); subst hz) | subst hz)); (try (conv => whnf))))
       refine Idx.mk k (wdv a) _ rfl (by simp [ha]) rfl ?_
       (try (conv => whnf)); (repeat ((first | refine qT ?_ | refine qF ?_ | refine qO ?_ | (with_reducible intro z hz); (first | (replace hz := hz (by omega); subst hz) | subst hz)); (try (conv => whnf))))
       exact hfin _ (ILes.refl _)
     · (try (conv => whnf)); (repeat ((first | refine qT ?_ | refine qF ?_ | refine qO ?_ | (with_reducible intro z hz); (first | (replace hz := hz (by omega); subst hz) | subst hz)); (try (conv => whnf))))
       refine Idx.mk k (wdv a) _ rfl (by simp [ha]) rfl ?_
       (try (conv => whnf)); (repeat ((first | refine qT ?_ | refine qF ?_ | refine qO ?_ | (with_reducible intro z hz); (first | (replace hz := hz (by omega); subst hz) | subst hz)); (try (conv => whnf))))
       exact ⟨k + 1, ⟨by omega, fun y hy => by
         rw [take_at ha, List.mem_append] at hy
         rcases hy with hy | hy
         · exact hp y hy
         · rw [List.mem_singleton.1 hy]; exact decide_eq_false hw⟩, by dsimp only; omega, (qSL 1 rfl rfl)⟩
   | inr hge =>
     obtain rfl : k = u.words.length := by omega
     rw [List.take_length] at hp
     have hno : (u.words.any fun a => decide (100 < a.text.size)) = false := List.any_eq_false.2 fun y hy => by rw [hp y hy]; decide
     rw [hno, Bool.false_or] at hfin
     clear hp hno
     (try (conv => whnf)); (repeat ((first | refine qT ?_ | refine qF ?_ | refine qO ?_ | (with_reducible intro z hz); (first | (replace hz := hz (by omega); subst hz) | subst hz)); (try (conv => whnf))))
     refine hLP _ _ _ Nat (fun k => ⟨[(1, .ptr 0 1 0), (5, .imm (.int .i64 (k : Nat)))], [.box 1 [.imm (.int .i64 u.id.x), .imm (.int .i64 u.id.y), .imm (.int .i64 u.id.z), .imm (.int .i64 u.kind), .imm (.str u.label), .imm (.sl 4 (u.head.map wdv)), .imm (.sl 4 (u.words.map wdv)), .imm (.sl 8 (u.kids.map uv))]]⟩) (fun k => k ≤ u.kids.length ∧ wyRs (u.kids.take k) = false) (fun k => u.kids.length - k) 0 ⟨Nat.zero_le _, rfl⟩ (qSL 1 rfl rfl) ?_
     rintro k ⟨hk, hp⟩
     have hho := Nat.lt_or_ge k u.kids.length
     cases hho with
     | inl hlt =>
       obtain ⟨x, hx⟩ : ∃ x, u.kids[k]? = some x := ⟨u.kids[k], List.getElem?_eq_getElem hlt⟩
       have hux := uv_eq x
       have hc := kid_lt' hx
       have hI := ih x (by omega) (by omega)
       rw [hux] at hI
       by_cases hw : wyR x = true
       · rw [wyRs_yes hx hw] at hfin
         rw [hw] at hI
         (try (conv => whnf)); (repeat ((first | refine qT ?_ | refine qF ?_ | refine qO ?_ | (with_reducible intro z hz); (first | (replace hz := hz (by omega); subst hz) | subst hz)); (try (conv => whnf))))
         refine Idx.mk k (uv x) _ rfl (by simp [hx]) (by rw [hux]; try rfl) ?_
         (try (conv => whnf)); (repeat ((first | refine qT ?_ | refine qF ?_ | refine qO ?_ | (with_reducible intro z hz); (first | (replace hz := hz (by omega); subst hz) | subst hz) | (refine CallV.mk _ (hC _ _ _ (PCw.of hI)) (fun js hjs => ?_); subst hjs)); (try (conv => whnf))))
         exact hfin _ (ILes.refl _)
       · rw [Bool.not_eq_true] at hw
         rw [hw] at hI
         (try (conv => whnf)); (repeat ((first | refine qT ?_ | refine qF ?_ | refine qO ?_ | (with_reducible intro z hz); (first | (replace hz := hz (by omega); subst hz) | subst hz)); (try (conv => whnf))))
         refine Idx.mk k (uv x) _ rfl (by simp [hx]) (by rw [hux]; try rfl) ?_
         (try (conv => whnf)); (repeat ((first | refine qT ?_ | refine qF ?_ | refine qO ?_ | (with_reducible intro z hz); (first | (replace hz := hz (by omega); subst hz) | subst hz) | (refine CallV.mk _ (hC _ _ _ (PCw.of hI)) (fun js hjs => ?_); subst hjs)); (try (conv => whnf))))
         exact ⟨k + 1, ⟨by omega, by rw [take_at hx, wyRs_app, hp]; simp [wyRs, hw]⟩, by dsimp only; omega, (qSL 1 rfl rfl)⟩
     | inr hge =>
       obtain rfl : k = u.kids.length := by omega
       rw [List.take_length] at hp
       rw [hp] at hfin
       (try (conv => whnf)); (repeat ((first | refine qT ?_ | refine qF ?_ | refine qO ?_ | (with_reducible intro z hz); (first | (replace hz := hz (by omega); subst hz) | subst hz)); (try (conv => whnf))))
       exact hfin _ (ILes.refl _)
def bigB (t : Ut) : Bool := decide (60 < cntN t 12 60) || wyR t
theorem all_cnt {u x : Ut} (h : x ∈ u.all) : x.count ≤ u.count := by
 have : ∀ (n : Nat) (u : Ut), u.count ≤ n → ∀ x ∈ u.all, x.count ≤ u.count := by
   intro n
   induction n with
   | zero => intro u h; have := count_pos u; omega
   | succ n ih =>
     intro u hn x hx
     have hcu := Ut.count_eq u
     rw [Ut.all_eq] at hx
     rcases List.mem_cons.1 hx with rfl | hx
     · exact Nat.le_refl _
     · obtain ⟨k, hk, hx⟩ := mem_alls.1 hx
       obtain ⟨i, hi⟩ := List.getElem?_of_mem hk
       have h1 := kid_lt' hi
       have h2 := ih k (by omega) x hx
       omega
 exact this u.count u (Nat.le_refl _) x h
theorem big_small {t : Ut} (h : bigB t = false) : Smal t ∧ t.count ≤ 60 := by
 unfold bigB at h
 simp only [Bool.or_eq_false_iff, decide_eq_false_iff_not] at h
 obtain ⟨h1, h2⟩ := h
 have hc := cntN_few t 12 60 (by omega) (by omega)
 rw [wyR_all, List.any_eq_false] at h2
 refine ⟨fun x hx => ?_, by omega⟩
 have h3 := h2 x hx
 unfold wy1 at h3
 simp only [Bool.or_eq_true, decide_eq_true_eq, List.any_eq_true, not_or, not_exists, not_and] at h3
 obtain ⟨_, h4, _, _, h5⟩ := h3
 have h6 := all_cnt hx
 have h7 := kids_counts x.kids
 have h8 := Ut.count_eq x
 exact ⟨by omega, by omega, fun a ha => by have := h5 a ha; omega⟩
theorem big_pc (t : Ut) : PC Try.prog env0 7 [uv t, .int .i64 60] [.bool (bigB t)] := by
 have hC0 := cnt_pc t.count t 12 60 (Nat.le_refl _) (by omega) (by omega) (by omega) (by omega)
 have hte := uv_eq t
 unfold bigB
 by_cases h1 : 60 < cntN t 12 60
 · rw [decide_eq_true h1, Bool.true_or]
   generalize cntN t 12 60 = q at hC0 h1
   rw [hte] at hC0 ⊢
   refine PC.of_va (T := tb0) eqs_ok tb_ok rfl mixed Try.func7 rfl rfl (Nat.le_of_ble_eq_true rfl) ?_; intro Γ C WK LP fin h0 hW hC hB hR hLP hfin
   (try (conv => whnf)); (repeat ((first | refine qT ?_ | refine qF ?_ | refine qO ?_ | (with_reducible intro z hz); (first | (replace hz := hz (by omega); subst hz) | subst hz) | (refine CallV.mk _ (hC _ _ _ (PCw.of hC0)) (fun js hjs => ?_); subst hjs)); (try (conv => whnf))))
   exact hfin _ (ILes.refl _)
 · have hcc := cntN_few t 12 60 (by omega) (by omega)
   have hW0 := wy_pc t.count t (Nat.le_refl _) (by omega)
   rw [decide_eq_false h1, Bool.false_or]
   generalize cntN t 12 60 = q at hC0 h1
   generalize wyR t = b at hW0 ⊢
   rw [hte] at hC0 hW0 ⊢
   refine PC.of_va (T := tb0) eqs_ok tb_ok rfl mixed Try.func7 rfl rfl (Nat.le_of_ble_eq_true rfl) ?_; intro Γ C WK LP fin h0 hW hC hB hR hLP hfin
   (try (conv => whnf)); (repeat ((first | refine qT ?_ | refine qF ?_ | refine qO ?_ | (with_reducible intro z hz); (first | (replace hz := hz (by omega); subst hz) | subst hz) | (refine CallV.mk _ (hC _ _ _ (PCw.of hC0)) (fun js hjs => ?_); subst hjs) | (refine CallV.mk _ (hC _ _ _ (PCw.of hW0)) (fun js hjs => ?_); subst hjs)); (try (conv => whnf))))
   exact hfin _ (ILes.refl _)
end Go.Proofs.Ytdkalehijilchaa.Pb
