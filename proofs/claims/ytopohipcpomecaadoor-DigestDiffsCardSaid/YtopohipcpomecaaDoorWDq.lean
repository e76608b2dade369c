/-
  How big a tree is, by the law.
-/
import Derived.Test.YtopohipcpomecaaDoorWDp
namespace Go.Proofs.YtopohipcpomecaaDoor.Pd
open Go Go.Pv Go.RowKit Go.Proofs.YtopohipcpomecaaDoor.Pu Go.Proofs.YtopohipcpomecaaDoor.Pb
set_option linter.unusedSimpArgs false
open Lab Lcs Go.Proofs.YtopohipcpomecaaDoor
set_option maxRecDepth 10000
set_option maxHeartbeats 16000000
mutual
def sizeD : Ut → Int → Int → Int
 | .mk _ _ _ _ _ kids, m, d => if d = 0 then m + 1 else sizeDL kids m d 1
def sizeDL : List Ut → Int → Int → Int → Int
 | [], _, _, n => n
 | u :: r, m, d, n => if n ≤ m then sizeDL r m d (n + sizeD u (m - n) (d - 1)) else n
end
theorem sizeD_eq (u : Ut) (m d : Int) : sizeD u m d = if d = 0 then m + 1 else sizeDL u.kids m d 1 := by
 cases u; rw [sizeD]; rfl
mutual
theorem sizeD_pos : ∀ (u : Ut) (m d : Int), 0 ≤ m → 1 ≤ sizeD u m d ∧ sizeD u m d ≤ m + 1
 | .mk _ _ _ _ _ kids, m, d, hm => by
   rw [sizeD]
   split
   · omega
   · exact sizeDL_pos kids m d 1 (by omega) (by omega)
theorem sizeDL_pos : ∀ (l : List Ut) (m d n : Int), 1 ≤ n → n ≤ m + 1 → 1 ≤ sizeDL l m d n ∧ sizeDL l m d n ≤ m + 1
 | [], _, _, n, h1, h2 => by rw [sizeDL]; omega
 | u :: r, m, d, n, h1, h2 => by
   rw [sizeDL]
   split
   · have := sizeD_pos u (m - n) (d - 1) (by omega)
     exact sizeDL_pos r m d _ (by omega) (by omega)
   · omega
end
mutual
theorem sizeD_few : ∀ (u : Ut) (m d : Int), 0 ≤ m → 0 ≤ d → sizeD u m d ≤ m → sizeD u m d = u.count ∧ (u.depth : Int) + 1 ≤ d
 | .mk id kind label head words kids, m, d, hm, hd0, h => by
   rw [sizeD] at h ⊢
   split at h
   · omega
   · rename_i hd
     rw [if_neg hd]
     have := sizeDL_few kids m d 1 (by omega) (by omega) h
     rw [count_mk, depth_mk]
     omega
theorem sizeDL_few : ∀ (l : List Ut) (m d n : Int), 1 ≤ n → 1 ≤ d → sizeDL l m d n ≤ m → sizeDL l m d n = n + Ut.counts l ∧ (Ut.depths l : Int) + 1 ≤ d
 | [], m, d, n, h1, h2, h => by
   rw [sizeDL] at h ⊢
   simp only [Ut.counts, Ut.depths]
   omega
 | u :: r, m, d, n, h1, h2, h => by
   rw [sizeDL] at h ⊢
   split at h
   · rename_i hn
     rw [if_pos hn]
     have hp := sizeD_pos u (m - n) (d - 1) (by omega)
     have h3 := sizeDL_few r m d (n + sizeD u (m - n) (d - 1)) (by omega) h2 h
     have h4 := sizeD_few u (m - n) (d - 1) (by omega) (by omega) (by omega)
     simp only [Ut.counts, Ut.depths]
     omega
   · omega
end
theorem size_pc (N : Nat) : ∀ (u : Ut) (m d : Int), u.count ≤ N → 0 ≤ d → d ≤ 1000 → 0 ≤ m → m ≤ 1000 → PC Tryd.prog envH 27 [uv u, .int .i64 m, .int .i64 d] [.int .i64 (sizeD u m d)] := by
 induction N with
 | zero => intro u m d h; have := count_pos u; omega
 | succ N ih =>
 intro u m d hN h0 hd hm0 hm
 have hue := uv_eq u
 have hcu := Ut.count_eq u
 have hml : (u.kids.map uv).length = u.kids.length := List.length_map _
 rw [sizeD_eq, hue]
 by_cases hlt : d = 0
 · rw [if_pos hlt]
   refine PC.of_va (T := tbi) eqs_ok tbi_ok rfl mixed Tryd.func27 rfl rfl (Nat.le_of_ble_eq_true rfl) ?_; intro Γ C WK LP fin h0 hW hC hB hR hLP hfin
   (try (conv => whnf)); (repeat ((first | refine qT ?_ | refine qF ?_ | refine qO ?_ | (with_reducible intro z hz); (first | (replace hz := hz (by omega); subst hz) | subst hz)); (try (conv => whnf))))
   exact hfin _ (ILes.refl _)
 · rw [if_neg hlt]
   refine PC.of_va (T := tbi) eqs_ok tbi_ok rfl mixed Tryd.func27 rfl rfl (Nat.le_of_ble_eq_true rfl) ?_; intro Γ C WK LP fin h0 hW hC hB hR hLP hfin
   (try (conv => whnf)); (repeat ((first | refine qT ?_ | refine qF ?_ | refine qO ?_ | (with_reducible intro z hz); (first | (replace hz := hz (by omega); subst hz) | subst hz)); (try (conv => whnf))))
   refine hLP _ _ _ (Nat × Int) (fun p => ⟨[(1, .imm (.int .i64 m)), (2, .imm (.int .i64 d)), (3, .ptr 0 1 0), (7, .imm (.int .i64 p.2)), (8, .imm (.int .i64 (p.1 : Nat)))], [.box 1 [.imm (.int .i64 u.id.x), .imm (.int .i64 u.id.y), .imm (.int .i64 u.id.z), .imm (.int .i64 u.kind), .imm (.str u.label), .imm (.sl 4 (u.head.map wdv)), .imm (.sl 4 (u.words.map wdv)), .imm (.sl 8 (u.kids.map uv))]]⟩) (fun p => p.1 ≤ u.kids.length ∧ p.2 ≤ m + 1 ∧ (p.1 : Int) + 1 ≤ p.2 ∧ sizeDL (u.kids.drop p.1) m d p.2 = sizeDL u.kids m d 1) (fun p => u.kids.length - p.1) (0, 1) ⟨Nat.zero_le _, by dsimp only; omega, by dsimp only; omega, rfl⟩ (qSL 1 rfl rfl) ?_
   rintro ⟨k, n⟩ ⟨hk, hkn, hn, hinv⟩
   dsimp only at hk hkn hn hinv ⊢
   have hho := Nat.lt_or_ge k u.kids.length
   cases hho with
   | inl hlt2 =>
     obtain ⟨x, hx⟩ : ∃ x, u.kids[k]? = some x := ⟨u.kids[k], List.getElem?_eq_getElem hlt2⟩
     have hdrop : u.kids.drop k = x :: u.kids.drop (k + 1) := by
       rw [List.drop_eq_getElem_cons hlt2]
       congr 1
       exact (List.getElem?_eq_some_iff.1 hx).2
     rw [hdrop, sizeDL] at hinv
     by_cases hnm : n ≤ m
     · have hux := uv_eq x
       have hp := sizeD_pos x (m - n) (d - 1) (by omega)
       have hkc := kid_lt' hx
       have hI := ih x (m - n) (d - 1) (by omega) (by omega) (by omega) (by omega) (by omega)
       rw [if_pos hnm] at hinv
       generalize sizeD x (m - n) (d - 1) = q at hI hp hinv
       rw [hux] at hI
       (try (conv => whnf)); (repeat ((first | refine qT ?_ | refine qF ?_ | refine qO ?_ | (with_reducible intro z hz); (first | (replace hz := hz (by omega); subst hz) | subst hz)); (try (conv => whnf))))
       refine Idx.mk k (uv x) _ rfl (by simp [hx]) (by rw [hux]; try rfl) ?_
       (try (conv => whnf)); (repeat ((first | refine qT ?_ | refine qF ?_ | refine qO ?_ | (with_reducible intro z hz); (first | (replace hz := hz (by omega); subst hz) | subst hz) | (refine CallV.mk _ (hC _ _ _ (PCw.of hI)) (fun js hjs => ?_); subst hjs)); (try (conv => whnf))))
       exact ⟨(k + 1, n + q), ⟨by dsimp only; omega, by dsimp only; omega, by dsimp only; omega, hinv⟩, by dsimp only; omega, (qSL 1 rfl rfl)⟩
     · rw [if_neg hnm] at hinv
       (try (conv => whnf)); (repeat ((first | refine qT ?_ | refine qF ?_ | refine qO ?_ | (with_reducible intro z hz); (first | (replace hz := hz (by omega); subst hz) | subst hz)); (try (conv => whnf))))
       refine hfin _ ?_
       rw [← hinv]
       exact ILes.refl _
   | inr hge =>
     rw [List.drop_eq_nil_of_le hge, sizeDL] at hinv
     (try (conv => whnf)); (repeat ((first | refine qT ?_ | refine qF ?_ | refine qO ?_ | (with_reducible intro z hz); (first | (replace hz := hz (by omega); subst hz) | subst hz)); (try (conv => whnf))))
     refine hfin _ ?_
     rw [← hinv]
     exact ILes.refl _
end Go.Proofs.YtopohipcpomecaaDoor.Pd
