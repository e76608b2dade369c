/-
  DigestLocality: the law's walk.
-/
import Derived.Test.YtopohipcpomecaaDoorWEe
namespace Go.Proofs.YtopohipcpomecaaDoor.Pd
open Go Go.Pv Go.RowKit Go.Proofs.YtopohipcpomecaaDoor.Pu Go.Proofs.YtopohipcpomecaaDoor.Pb
set_option linter.unusedSimpArgs false
open Lab Lcs Go.Proofs.YtopohipcpomecaaDoor
set_option maxRecDepth 10000
set_option maxHeartbeats 16000000
theorem lawLocality (u : Ut) (z : Int) (hr : Rch u) (hz0 : 0 ≤ z) (hz1 : z < 256) : PC Tryd.prog envH 7 [uv u, .int .u8 z] [.bool true] := by
 have hH := heavy_pc u hr
 have hA := awake_pc
 have hue := uv_eq u
 cases hh : heavyB u with
 | true =>
   rw [hh] at hH
   rw [hue] at hH ⊢
   refine PC.of_va (T := tbz) eqs_ok tbz_ok rfl mixed Tryd.func7 rfl rfl (Nat.le_of_ble_eq_true rfl) ?_; intro Γ C WK LP fin h0 hW hC hB hR hLP hfin
   (try (conv => whnf)); (repeat ((first | refine qT ?_ | refine qF ?_ | refine qO ?_ | (with_reducible intro z hz); (first | (replace hz := hz (by omega); subst hz) | subst hz) | (refine CallV.mk _ (hC _ _ _ (PCw.of hH)) (fun js hjs => ?_); subst hjs) | (refine CallV.mk _ (hC _ _ _ (PCw.of hH)) (fun js hjs => ?_); subst hjs) | (refine CallV.mk _ (hC _ _ _ (PCw.of hA)) (fun js hjs => ?_); subst hjs)); (try (conv => whnf))))
   exact hfin _ (ILes.refl _)
 | false =>
   obtain ⟨hf, hc, hsm⟩ := heavy_no hr hh
   have hfs := heavy_small hr hh
   have hcp := count_pos u
   rw [hh] at hH
   have hD := diff_pc u u (by omega) (by omega) hf hf
   rw [apart_self] at hD
   have hU := units_pc _ u (Nat.le_refl _) (by omega)
   have hal : (u.all.map uv).length = u.count := by rw [List.length_map, all_length]
   have hall := all_length u
   obtain ⟨n, hn⟩ : ∃ n : Nat, z.tmod (((u.all.map uv).length : Nat) : Int) = n ∧ n < u.count := by
     refine ⟨(z.tmod (((u.all.map uv).length : Nat) : Int)).toNat, ?_, ?_⟩
     · rw [Int.tmod_eq_emod_of_nonneg hz0]
       have := Int.emod_nonneg z (show (((u.all.map uv).length : Nat) : Int) ≠ 0 by omega)
       omega
     · rw [Int.tmod_eq_emod_of_nonneg hz0]
       have := Int.emod_lt_of_pos z (show (0 : Int) < (((u.all.map uv).length : Nat) : Int) by omega)
       omega
   obtain ⟨hn1, hn2⟩ := hn
   have hT := turned_pc _ u n (Nat.le_refl _) (by omega) hsm
   have hB2 := above_pc _ u n (Nat.le_refl _) (by omega) hn2
   have hD2 := diff_pc u (turn u n).1 (by omega) (by rw [turn_count u n hn2]; omega) hf (turn_fit hfs n)
   have hloc := locality u n hn2
   have hapl := apart_len u.all (turn u n).1.all (u.all ++ (turn u n).1.all)
   rw [List.length_append, all_length, all_length, turn_count u n hn2] at hapl
   have habl := abv_len u n
   have hve := uv_eq (turn u n).1
   generalize apartK u.all (turn u n).1.all (u.all ++ (turn u n).1.all) = L at *
   generalize abv u n = W at *
   generalize (turn u n).1 = v at *
   generalize (turn u n).2 = s at *
   generalize hX : u.all = X at *
   rw [hve] at hT hD2
   rw [hue] at hH hD hU hT hB2 hD2 ⊢
   refine PC.of_va (T := tbz) eqs_ok tbz_ok rfl mixed Tryd.func7 rfl rfl (Nat.le_of_ble_eq_true rfl) ?_; intro Γ C WK LP fin h0 hW hC hB hR hLP hfin
   (try (conv => whnf)); (repeat ((first | refine qT ?_ | refine qF ?_ | refine qO ?_ | (with_reducible intro z hz); (first | (replace hz := hz (by omega); subst hz) | subst hz) | (refine CallV.mk _ (hC _ _ _ (PCw.of hH)) (fun js hjs => ?_); subst hjs) | (refine CallV.mk _ (hC _ _ _ (PCw.of hD)) (fun js hjs => ?_); subst hjs) | (refine CallV.mk _ (hC _ _ _ (PCw.of hU)) (fun js hjs => ?_); subst hjs)); (try (conv => whnf))))
   refine hLP _ _ _ Nat (fun k => ⟨[(1, .imm (.int .u8 z)), (2, .ptr 0 1 0), (5, .imm (.sl 8 (X.map uv))), (34, .imm (.sl 8 (X.map uv))), (35, .imm (.int .i64 (X.length : Nat))), (36, .imm (.int .i64 (k : Nat)))], [.box 1 [.imm (.int .i64 u.id.x), .imm (.int .i64 u.id.y), .imm (.int .i64 u.id.z), .imm (.int .i64 u.kind), .imm (.str u.label), .imm (.sl 4 (u.head.map wdv)), .imm (.sl 4 (u.words.map wdv)), .imm (.sl 8 (u.kids.map uv))]]⟩) (fun k => k ≤ X.length) (fun k => X.length - k) 0 (Nat.zero_le _) (qSL 1 rfl rfl) ?_
   intro k hk
   have hml : (X.map uv).length = X.length := List.length_map _
   have hho := Nat.lt_or_ge k X.length
   cases hho with
   | inl hlt =>
     obtain ⟨x, hx⟩ : ∃ x, X[k]? = some x := ⟨X[k], List.getElem?_eq_getElem hlt⟩
     have hux := uv_eq x
     (try (conv => whnf)); (repeat ((first | refine qT ?_ | refine qF ?_ | refine qO ?_ | (with_reducible intro z hz); (first | (replace hz := hz (by omega); subst hz) | subst hz)); (try (conv => whnf))))
     refine Idx.mk k (uv x) _ rfl (by simp [hx]) (by rw [hux]; try rfl) ?_
     (try (conv => whnf)); (repeat ((first | refine qT ?_ | refine qF ?_ | refine qO ?_ | (with_reducible intro z hz); (first | (replace hz := hz (by omega); subst hz) | subst hz)); (try (conv => whnf))))
     refine hLP _ _ _ Nat (fun j => ⟨[(1, .imm (.int .u8 z)), (2, .ptr 0 1 0), (5, .imm (.sl 8 (X.map uv))), (6, .imm (.int .i64 (k : Nat))), (7, .ptr 1 1 0), (8, .imm (.int .i64 (j : Nat))), (34, .imm (.sl 8 (X.map uv))), (35, .imm (.int .i64 (X.length : Nat))), (36, .imm (.int .i64 (k : Nat)))], [.box 1 [.imm (.int .i64 u.id.x), .imm (.int .i64 u.id.y), .imm (.int .i64 u.id.z), .imm (.int .i64 u.kind), .imm (.str u.label), .imm (.sl 4 (u.head.map wdv)), .imm (.sl 4 (u.words.map wdv)), .imm (.sl 8 (u.kids.map uv))], .box 1 [.imm (.int .i64 x.id.x), .imm (.int .i64 x.id.y), .imm (.int .i64 x.id.z), .imm (.int .i64 x.kind), .imm (.str x.label), .imm (.sl 4 (x.head.map wdv)), .imm (.sl 4 (x.words.map wdv)), .imm (.sl 8 (x.kids.map uv))]]⟩) (fun j => j ≤ k) (fun j => k - j) 0 (Nat.zero_le _) (qSL 2 rfl rfl) ?_
     intro j hj
     have hho := Nat.lt_or_ge j k
     cases hho with
     | inl hjk =>
       obtain ⟨y, hy⟩ : ∃ y, X[j]? = some y := ⟨X[j], List.getElem?_eq_getElem (by omega)⟩
       have huy := uv_eq y
       by_cases hxy : y.id = x.id
       · have hi := tr_eq hxy
         (try (conv => whnf)); (repeat ((first | refine qT ?_ | refine qF ?_ | refine qO ?_ | (with_reducible intro z hz); (first | (replace hz := hz (by omega); subst hz) | subst hz)); (try (conv => whnf))))
         refine Idx.mk j (uv y) _ rfl (by simp [hy]) (by rw [huy]; try rfl) ?_
         (try (conv => whnf)); (repeat ((first | refine qT ?_ | refine qF ?_ | refine qO ?_ | (with_reducible intro z hz); (first | (replace hz := hz (by omega); subst hz) | subst hz) | (refine CallV.mk _ (hC _ _ _ (PCw.of hA)) (fun js hjs => ?_); subst hjs)); (try (conv => whnf))))
         exact hfin _ (ILes.refl _)
       · have hi := tr_ne hxy
         refine (?_ : ∀ Q : Exit → AS → Prop, vcS _ _ _ _ _ _ _ (loopQA _ _ _ _ _ _ Q)) _; intro Q
         (try (conv => whnf)); (repeat ((first | refine qT ?_ | refine qF ?_ | refine qO ?_ | (with_reducible intro z hz); (first | (replace hz := hz (by omega); subst hz) | subst hz)); (try (conv => whnf))))
         refine Idx.mk j (uv y) _ rfl (by simp [hy]) (by rw [huy]; try rfl) ?_
         (try (conv => whnf)); (repeat ((first | refine qT ?_ | refine qF ?_ | refine qO ?_ | (with_reducible intro z hz); (first | (replace hz := hz (by omega); subst hz) | subst hz)); (try (conv => whnf))))
         exact ⟨j + 1, by omega, by dsimp only; omega, (qSL 2 rfl rfl)⟩
     | inr hge =>
       obtain rfl : j = k := by omega
       (try (conv => whnf)); (repeat ((first | refine qT ?_ | refine qF ?_ | refine qO ?_ | (with_reducible intro z hz); (first | (replace hz := hz (by omega); subst hz) | subst hz)); (try (conv => whnf))))
       exact ⟨j + 1, by omega, by dsimp only; omega, (qSL 1 rfl rfl)⟩
   | inr hge =>
     obtain rfl : k = X.length := by omega
     (try (conv => whnf)); (repeat ((first | refine qT ?_ | refine qF ?_ | refine qO ?_); (try (conv => whnf))))
     intro w hw; obtain rfl : w = z := hw (by omega)
     (try (conv => whnf)); (repeat ((first | refine qT ?_ | refine qF ?_ | refine qO ?_); (try (conv => whnf))))
     intro w hw; subst hw
     (try (conv => whnf)); (repeat ((first | refine qT ?_ | refine qF ?_ | refine qO ?_); (try (conv => whnf))))
     intro w hw; obtain rfl : w = ((n : Nat) : Int) := by rw [hw, hn1]
     (try (conv => whnf)); (repeat ((first | refine qT ?_ | refine qF ?_ | refine qO ?_ | (with_reducible intro z hz); (first | (replace hz := hz (by omega); subst hz) | subst hz) | (refine CallV.mk _ (hC _ _ _ (PCw.of hT)) (fun js hjs => ?_); subst hjs) | (refine CallV.mk _ (hC _ _ _ (PCw.of hB2)) (fun js hjs => ?_); subst hjs) | (refine CallV.mk _ (hC _ _ _ (PCw.of hD2)) (fun js hjs => ?_); subst hjs)); (try (conv => whnf))))
     have hLl : (L.map idv).length = L.length := List.length_map _
     have hWl : (W.map idv).length = W.length := List.length_map _
     refine hLP _ _ _ Nat (fun j => ⟨[(12, .imm (.sl 3 (W.map idv))), (72, .imm (.sl 3 (L.map idv))), (73, .imm (.int .i64 (L.length : Nat))), (74, .imm (.int .i64 (j : Nat)))], [.box 1 [.imm (.int .i64 u.id.x), .imm (.int .i64 u.id.y), .imm (.int .i64 u.id.z), .imm (.int .i64 u.kind), .imm (.str u.label), .imm (.sl 4 (u.head.map wdv)), .imm (.sl 4 (u.words.map wdv)), .imm (.sl 8 (u.kids.map uv))]]⟩) (fun j => j ≤ L.length) (fun j => L.length - j) 0 (Nat.zero_le _) (qSL 1 rfl rfl) ?_
     intro j hj
     have hho := Nat.lt_or_ge j L.length
     cases hho with
     | inr hge =>
       obtain rfl : j = L.length := by omega
       (try (conv => whnf)); (repeat ((first | refine qT ?_ | refine qF ?_ | refine qO ?_ | (with_reducible intro z hz); (first | (replace hz := hz (by omega); subst hz) | subst hz) | (refine CallV.mk _ (hC _ _ _ (PCw.of hA)) (fun js hjs => ?_); subst hjs)); (try (conv => whnf))))
       exact hfin _ (ILes.refl _)
     | inl hlt =>
       obtain ⟨t, ht⟩ : ∃ t, L[j]? = some t := ⟨L[j], List.getElem?_eq_getElem hlt⟩
       have hin := hloc t (List.mem_of_getElem? ht)
       (try (conv => whnf)); (repeat ((first | refine qT ?_ | refine qF ?_ | refine qO ?_ | (with_reducible intro z hz); (first | (replace hz := hz (by omega); subst hz) | subst hz)); (try (conv => whnf))))
       refine Idx.mk j (idv t) _ rfl (by simp [ht]) rfl ?_
       (try (conv => whnf)); (repeat ((first | refine qT ?_ | refine qF ?_ | refine qO ?_ | (with_reducible intro z hz); (first | (replace hz := hz (by omega); subst hz) | subst hz)); (try (conv => whnf))))
       refine hLP _ _ _ Nat (fun i => ⟨[(12, .imm (.sl 3 (W.map idv))), (14, .ptr 1 1 0), (15, .imm (.bool (decide (t ∈ W.take i)))), (72, .imm (.sl 3 (L.map idv))), (73, .imm (.int .i64 (L.length : Nat))), (74, .imm (.int .i64 (j : Nat))), (78, .imm (.sl 3 (W.map idv))), (79, .imm (.int .i64 (W.length : Nat))), (80, .imm (.int .i64 (i : Nat)))], [.box 1 [.imm (.int .i64 u.id.x), .imm (.int .i64 u.id.y), .imm (.int .i64 u.id.z), .imm (.int .i64 u.kind), .imm (.str u.label), .imm (.sl 4 (u.head.map wdv)), .imm (.sl 4 (u.words.map wdv)), .imm (.sl 8 (u.kids.map uv))], .box 1 [.imm (.int .i64 t.x), .imm (.int .i64 t.y), .imm (.int .i64 t.z)]]⟩) (fun i => i ≤ W.length) (fun i => W.length - i) 0 (Nat.zero_le _) (qSL 2 rfl rfl) ?_
       intro i hi
       have hho := Nat.lt_or_ge i W.length
       cases hho with
       | inr hge =>
         obtain rfl : i = W.length := by omega
         rw [List.take_length, decide_eq_true hin]
         (try (conv => whnf)); (repeat ((first | refine qT ?_ | refine qF ?_ | refine qO ?_ | (with_reducible intro z hz); (first | (replace hz := hz (by omega); subst hz) | subst hz)); (try (conv => whnf))))
         exact ⟨j + 1, by omega, by dsimp only; omega, (qSL 1 rfl rfl)⟩
       | inl hiw =>
         refine (?_ : ∀ Q : Exit → AS → Prop, vcS _ _ _ _ _ _ _ (loopQA _ _ _ _ _ _ Q)) _; intro Q
         obtain ⟨w, hw⟩ : ∃ w, W[i]? = some w := ⟨W[i], List.getElem?_eq_getElem hiw⟩
         have hta := take_at hw
         by_cases h1 : t ∈ W.take i
         · have h2 : t ∈ W.take (i + 1) := by rw [hta]; exact List.mem_append.2 (Or.inl h1)
           rw [decide_eq_true h1]
           (try (conv => whnf)); (repeat ((first | refine qT ?_ | refine qF ?_ | refine qO ?_ | (with_reducible intro z hz); (first | (replace hz := hz (by omega); subst hz) | subst hz)); (try (conv => whnf))))
           refine Idx.mk i (idv w) _ rfl (by simp [hw]) rfl ?_
           (try (conv => whnf)); (repeat ((first | refine qT ?_ | refine qF ?_ | refine qO ?_ | (with_reducible intro z hz); (first | (replace hz := hz (by omega); subst hz) | subst hz)); (try (conv => whnf))))
           refine ⟨i + 1, by omega, by dsimp only; omega, ?_⟩
           dsimp only []
           rw [decide_eq_true h2]
           exact (qSL 2 rfl rfl)
         · rw [decide_eq_false h1]
           by_cases h3 : w = t
           · have h2 : t ∈ W.take (i + 1) := by rw [hta, h3]; exact List.mem_append.2 (Or.inr List.mem_cons_self)
             have he := tr_eq h3
             (try (conv => whnf)); (repeat ((first | refine qT ?_ | refine qF ?_ | refine qO ?_ | (with_reducible intro z hz); (first | (replace hz := hz (by omega); subst hz) | subst hz)); (try (conv => whnf))))
             refine Idx.mk i (idv w) _ rfl (by simp [hw]) rfl ?_
             (try (conv => whnf)); (repeat ((first | refine qT ?_ | refine qF ?_ | refine qO ?_ | (with_reducible intro z hz); (first | (replace hz := hz (by omega); subst hz) | subst hz)); (try (conv => whnf))))
             refine ⟨i + 1, by omega, by dsimp only; omega, ?_⟩
             dsimp only []
             rw [decide_eq_true h2]
             exact (qSL 2 rfl rfl)
           · have h2 : ¬ t ∈ W.take (i + 1) := by
               rw [hta]
               intro h
               rcases List.mem_append.1 h with h | h
               · exact h1 h
               · rw [List.mem_singleton] at h; exact h3 h.symm
             have he := tr_ne h3
             (try (conv => whnf)); (repeat ((first | refine qT ?_ | refine qF ?_ | refine qO ?_ | (with_reducible intro z hz); (first | (replace hz := hz (by omega); subst hz) | subst hz)); (try (conv => whnf))))
             refine Idx.mk i (idv w) _ rfl (by simp [hw]) rfl ?_
             (try (conv => whnf)); (repeat ((first | refine qT ?_ | refine qF ?_ | refine qO ?_ | (with_reducible intro z hz); (first | (replace hz := hz (by omega); subst hz) | subst hz)); (try (conv => whnf))))
             refine ⟨i + 1, by omega, by dsimp only; omega, ?_⟩
             dsimp only []
             rw [decide_eq_false h2]
             exact (qSL 2 rfl rfl)
end Go.Proofs.YtopohipcpomecaaDoor.Pd
