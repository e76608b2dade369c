/-
  The reference's sets of days: membership, sorted insertion, points.
-/
import Derived.Test.YtmgjpmjmondplaaWAa
import Derived.Test.YtmgjpmjmondplaaRm
namespace Go.Proofs.Ytmgjpmjmondplaa.Pe
open Go Go.Pv Go.RowKit
set_option linter.unusedSimpArgs false
open Spans Rm
set_option maxRecDepth 10000
set_option maxHeartbeats 16000000
def spv (s : Sp) : IV := .agg [.int .i64 s.1, .int .i64 s.2]
abbrev zv (z : Int) : IV := .int .i64 z
theorem con_take {L : List Sp} {k : Nat} {x : Sp} (hx : L[k]? = some x) (d : Int) : conB (L.take (k + 1)) d = (conB (L.take k) d || (decide (0 ≤ d ∧ d ≤ 1048576) && decide (x.1 ≤ d ∧ d < x.2))) := by
 unfold conB
 rw [take_at hx, memB_app]
 simp [memB, Bool.and_or_distrib_left]
theorem con_hit {L : List Sp} {k : Nat} {x : Sp} (hx : L[k]? = some x) {d : Int} (h0 : 0 ≤ d ∧ d ≤ 1048576) (h1 : x.1 ≤ d ∧ d < x.2) : conB L d = true := by
 unfold conB
 rw [decide_eq_true h0, Bool.true_and, memB_iff]
 exact ⟨x, List.mem_of_getElem? hx, h1⟩
theorem has_pc (L : List Sp) (d : Int) (hl : L.length ≤ 1000000) : PC Try.prog env0 51 [.sl 2 (L.map spv), .int .i64 d] [.bool (conB L d)] := by
 have hml : (L.map spv).length = L.length := List.length_map _
 refine PC.of_va (T := tb0) eqs_ok tb_ok rfl mixed Try.func51 rfl rfl (Nat.le_of_ble_eq_true rfl) ?_; intro Γ C WK LP fin h0 hW hC hB hR hLP hfin
 (try (conv => whnf)); (repeat ((first | refine qT ?_ | refine qF ?_ | refine qO ?_ | (with_reducible intro z hz); (first | (replace hz := hz (by omega); subst hz) | subst hz)); (try (conv => whnf))))
 refine hLP _ _ _ Nat (fun k => ⟨[(0, .imm (.sl 2 (L.map spv))), (1, .imm (.int .i64 d)), (5, .imm (.int .i64 (k : Nat)))], []⟩) (fun k => k ≤ L.length ∧ conB (L.take k) d = false) (fun k => L.length - k) 0 ⟨Nat.zero_le _, by simp [conB, memB]⟩ (qSL 0 rfl rfl) ?_
 rintro k ⟨hk, hp⟩
 have hho := Nat.lt_or_ge k L.length
 cases hho with
 | inl hlt =>
   obtain ⟨⟨f, t⟩, hx⟩ : ∃ x, L[k]? = some x := ⟨L[k], List.getElem?_eq_getElem hlt⟩
   have hst := con_take hx d
   rw [hp, Bool.false_or] at hst
   dsimp only at hst
   by_cases h0 : 0 ≤ d
   rotate_left
   · rw [decide_eq_false (fun h => h0 h.1), Bool.false_and] at hst
     (try (conv => whnf)); (repeat ((first | refine qT ?_ | refine qF ?_ | refine qO ?_ | (with_reducible intro z hz); (first | (replace hz := hz (by omega); subst hz) | subst hz)); (try (conv => whnf))))
     exact ⟨k + 1, ⟨by omega, hst⟩, by dsimp only; omega, (qSL 0 rfl rfl)⟩
   by_cases h1 : d ≤ 1048576
   rotate_left
   · rw [decide_eq_false (fun h => h1 h.2), Bool.false_and] at hst
     (try (conv => whnf)); (repeat ((first | refine qT ?_ | refine qF ?_ | refine qO ?_ | (with_reducible intro z hz); (first | (replace hz := hz (by omega); subst hz) | subst hz)); (try (conv => whnf))))
     exact ⟨k + 1, ⟨by omega, hst⟩, by dsimp only; omega, (qSL 0 rfl rfl)⟩
   by_cases h2 : f ≤ d
   rotate_left
   · rw [decide_eq_false (fun h : f ≤ d ∧ d < t => h2 h.1), Bool.and_false] at hst
     (try (conv => whnf)); (repeat ((first | refine qT ?_ | refine qF ?_ | refine qO ?_ | (with_reducible intro z hz); (first | (replace hz := hz (by omega); subst hz) | subst hz)); (try (conv => whnf))))
     refine Idx.mk k (spv (f, t)) _ rfl (by simp [hx]) rfl ?_
     (try (conv => whnf)); (repeat ((first | refine qT ?_ | refine qF ?_ | refine qO ?_ | (with_reducible intro z hz); (first | (replace hz := hz (by omega); subst hz) | subst hz)); (try (conv => whnf))))
     exact ⟨k + 1, ⟨by omega, hst⟩, by dsimp only; omega, (qSL 0 rfl rfl)⟩
   by_cases h3 : d < t
   · rw [con_hit hx ⟨h0, h1⟩ ⟨h2, h3⟩] at hfin
     (try (conv => whnf)); (repeat ((first | refine qT ?_ | refine qF ?_ | refine qO ?_ | (with_reducible intro z hz); (first | (replace hz := hz (by omega); subst hz) | subst hz)); (try (conv => whnf))))
     refine Idx.mk k (spv (f, t)) _ rfl (by simp [hx]) rfl ?_
     (try (conv => whnf)); (repeat ((first | refine qT ?_ | refine qF ?_ | refine qO ?_ | (with_reducible intro z hz); (first | (replace hz := hz (by omega); subst hz) | subst hz)); (try (conv => whnf))))
     refine Idx.mk k (spv (f, t)) _ rfl (by simp [hx]) rfl ?_
     (try (conv => whnf)); (repeat ((first | refine qT ?_ | refine qF ?_ | refine qO ?_ | (with_reducible intro z hz); (first | (replace hz := hz (by omega); subst hz) | subst hz)); (try (conv => whnf))))
     exact hfin _ (ILes.refl _)
   · rw [decide_eq_false (fun h : f ≤ d ∧ d < t => h3 h.2), Bool.and_false] at hst
     (try (conv => whnf)); (repeat ((first | refine qT ?_ | refine qF ?_ | refine qO ?_ | (with_reducible intro z hz); (first | (replace hz := hz (by omega); subst hz) | subst hz)); (try (conv => whnf))))
     refine Idx.mk k (spv (f, t)) _ rfl (by simp [hx]) rfl ?_
     (try (conv => whnf)); (repeat ((first | refine qT ?_ | refine qF ?_ | refine qO ?_ | (with_reducible intro z hz); (first | (replace hz := hz (by omega); subst hz) | subst hz)); (try (conv => whnf))))
     refine Idx.mk k (spv (f, t)) _ rfl (by simp [hx]) rfl ?_
     (try (conv => whnf)); (repeat ((first | refine qT ?_ | refine qF ?_ | refine qO ?_ | (with_reducible intro z hz); (first | (replace hz := hz (by omega); subst hz) | subst hz)); (try (conv => whnf))))
     exact ⟨k + 1, ⟨by omega, hst⟩, by dsimp only; omega, (qSL 0 rfl rfl)⟩
 | inr hge =>
   obtain rfl : k = L.length := by omega
   rw [List.take_length] at hp
   rw [hp] at hfin
   (try (conv => whnf)); (repeat ((first | refine qT ?_ | refine qF ?_ | refine qO ?_ | (with_reducible intro z hz); (first | (replace hz := hz (by omega); subst hz) | subst hz)); (try (conv => whnf))))
   exact hfin _ (ILes.refl _)
theorem counts_pc (h : Int) (hh : h = 0 ∨ h = 1 ∨ h = 2) (La Lb : List Sp) (d : Int) (ha : La.length ≤ 1000000) (hb : Lb.length ≤ 1000000) : PC Try.prog env0 45 [.int .i64 h, .sl 2 (La.map spv), .sl 2 (Lb.map spv), .int .i64 d] [.bool (opB h (conB La d) (conB Lb d))] := by
 have h1 := has_pc La d ha
 have h2 := has_pc Lb d hb
 generalize conB La d = x at *
 generalize conB Lb d = y at *
 rcases hh with rfl | rfl | rfl <;> cases x <;> cases y
 all_goals (unfold opB)
 all_goals (refine PC.of_va (T := tb0) eqs_ok tb_ok rfl mixed Try.func45 rfl rfl (Nat.le_of_ble_eq_true rfl) ?_; intro Γ C WK LP fin h0 hW hC hB hR hLP hfin)
 all_goals ((try (conv => whnf)); (repeat ((first | refine qT ?_ | refine qF ?_ | refine qO ?_ | (with_reducible intro z hz); (first | (replace hz := hz (by omega); subst hz) | subst hz)); (try (conv => whnf)))))
 all_goals (refine CallV.mk _ (hC _ _ _ (PCw.of (h1))) (fun js hjs => ?_); subst hjs)
 all_goals ((try (conv => whnf)); (repeat ((first | refine qT ?_ | refine qF ?_ | refine qO ?_ | (with_reducible intro z hz); (first | (replace hz := hz (by omega); subst hz) | subst hz)); (try (conv => whnf)))))
 all_goals (refine CallV.mk _ (hC _ _ _ (PCw.of (h2))) (fun js hjs => ?_); subst hjs)
 all_goals ((try (conv => whnf)); (repeat ((first | refine qT ?_ | refine qF ?_ | refine qO ?_ | (with_reducible intro z hz); (first | (replace hz := hz (by omega); subst hz) | subst hz)); (try (conv => whnf)))))
 all_goals (exact hfin _ (ILes.refl _))
theorem el_at {zs : List Int} {k : Nat} {z : Int} (h : zs[k]? = some z) : el zs k = z := by unfold el; rw [List.getD_eq_getElem?_getD, h]; rfl
theorem put_pc (zs : List Int) (n : Int) (hl : zs.length ≤ 1000000) : PC Try.prog env0 50 [.sl 1 (zs.map zv), .int .i64 n] [.sl 1 ((putP zs n).map zv)] := by
 have hml : (zs.map zv).length = zs.length := List.length_map _
 refine PC.of_va (T := tb0) eqs_ok tb_ok rfl mixed Try.func50 rfl rfl (Nat.le_of_ble_eq_true rfl) ?_; intro Γ C WK LP fin h0 hW hC hB hR hLP hfin
 (try (conv => whnf)); (repeat ((first | refine qT ?_ | refine qF ?_ | refine qO ?_ | (with_reducible intro z hz); (first | (replace hz := hz (by omega); subst hz) | subst hz)); (try (conv => whnf))))
 refine hLP _ _ _ Nat (fun k => ⟨[(0, .imm (.sl 1 (zs.map zv))), (1, .imm (.int .i64 n)), (5, .imm (.int .i64 (k : Nat)))], []⟩) (fun k => k ≤ zs.length ∧ ∀ j, j < k → el zs j < n) (fun k => zs.length - k) 0 ⟨Nat.zero_le _, fun j h => by omega⟩ (qSL 0 rfl rfl) ?_
 rintro k ⟨hk, hp⟩
 have hho := Nat.lt_or_ge k zs.length
 cases hho with
 | inl hlt =>
   obtain ⟨z, hx⟩ : ∃ z, zs[k]? = some z := ⟨zs[k], List.getElem?_eq_getElem hlt⟩
   have he := el_at hx
   by_cases h0 : z < n
   · (try (conv => whnf)); (repeat ((first | refine qT ?_ | refine qF ?_ | refine qO ?_ | (with_reducible intro z hz); (first | (replace hz := hz (by omega); subst hz) | subst hz)); (try (conv => whnf))))
     refine Idx.mk k (zv z) _ rfl (by simp [hx]) rfl ?_
     (try (conv => whnf)); (repeat ((first | refine qT ?_ | refine qF ?_ | refine qO ?_ | (with_reducible intro z hz); (first | (replace hz := hz (by omega); subst hz) | subst hz)); (try (conv => whnf))))
     exact ⟨k + 1, ⟨by omega, fun j hj => by
       rcases Nat.lt_or_ge j k with h | h
       · exact hp j h
       · obtain rfl : j = k := by omega
         rw [he]; exact h0⟩, by dsimp only; omega, (qSL 0 rfl rfl)⟩
   · have hq := putP_eq zs n k hk hp (fun _ => by rw [he]; exact h0)
     by_cases h1 : z = n
     · rw [if_pos ⟨hlt, by rw [he]; exact h1⟩] at hq
       rw [hq] at hfin
       (try (conv => whnf)); (repeat ((first | refine qT ?_ | refine qF ?_ | refine qO ?_ | (with_reducible intro z hz); (first | (replace hz := hz (by omega); subst hz) | subst hz)); (try (conv => whnf))))
       refine Idx.mk k (zv z) _ rfl (by simp [hx]) rfl ?_
       (try (conv => whnf)); (repeat ((first | refine qT ?_ | refine qF ?_ | refine qO ?_ | (with_reducible intro z hz); (first | (replace hz := hz (by omega); subst hz) | subst hz)); (try (conv => whnf))))
       refine Idx.mk k (zv z) _ rfl (by simp [hx]) rfl ?_
       (try (conv => whnf)); (repeat ((first | refine qT ?_ | refine qF ?_ | refine qO ?_ | (with_reducible intro z hz); (first | (replace hz := hz (by omega); subst hz) | subst hz)); (try (conv => whnf))))
       exact hfin _ (ILes.refl _)
     · rw [if_neg (fun h => h1 (by rw [← he]; exact h.2))] at hq
       rw [hq] at hfin
       (try (conv => whnf)); (repeat ((first | refine qT ?_ | refine qF ?_ | refine qO ?_ | (with_reducible intro z hz); (first | (replace hz := hz (by omega); subst hz) | subst hz)); (try (conv => whnf))))
       refine Idx.mk k (zv z) _ rfl (by simp [hx]) rfl ?_
       (try (conv => whnf)); (repeat ((first | refine qT ?_ | refine qF ?_ | refine qO ?_ | (with_reducible intro z hz); (first | (replace hz := hz (by omega); subst hz) | subst hz)); (try (conv => whnf))))
       refine Idx.mk k (zv z) _ rfl (by simp [hx]) rfl ?_
       (try (conv => whnf)); (repeat ((first | refine qT ?_ | refine qF ?_ | refine qO ?_ | (with_reducible intro z hz); (first | (replace hz := hz (by omega); subst hz) | subst hz)); (try (conv => whnf))))
       refine Imms.mk ((zs.take k ++ n :: zs.drop k).map zv) (by simp) ?_
       exact hfin _ (ILes.refl _)
 | inr hge =>
   obtain rfl : k = zs.length := by omega
   have hq := putP_eq zs n zs.length (Nat.le_refl _) hp (fun h => by omega)
   rw [if_neg (fun h => by omega)] at hq
   rw [hq] at hfin
   (try (conv => whnf)); (repeat ((first | refine qT ?_ | refine qF ?_ | refine qO ?_ | (with_reducible intro z hz); (first | (replace hz := hz (by omega); subst hz) | subst hz)); (try (conv => whnf))))
   rw [List.take_length, List.drop_length] at hfin
   refine Imms.mk ((zs ++ [n]).map zv) (by simp [List.take_of_length_le, List.drop_of_length_le]) ?_
   exact hfin _ (ILes.refl _)
theorem fr_at {L : List Sp} {k : Nat} {x : Sp} (h : L[k]? = some x) : fr L k = x.1 := by unfold fr; rw [List.getD_eq_getElem?_getD, h]; rfl
theorem tu_at {L : List Sp} {k : Nat} {x : Sp} (h : L[k]? = some x) : tu L k = x.2 := by unfold tu; rw [List.getD_eq_getElem?_getD, h]; rfl
theorem points_pc (L : List Sp) (hl : L.length ≤ 100000) : PC Try.prog env0 44 [.sl 2 (L.map spv)] [.sl 1 ((pts L).map zv)] := by
 have hml : (L.map spv).length = L.length := List.length_map _
 refine PC.of_va (T := tb0) eqs_ok tb_ok rfl mixed Try.func44 rfl rfl (Nat.le_of_ble_eq_true rfl) ?_; intro Γ C WK LP fin h0 hW hC hB hR hLP hfin
 (try (conv => whnf)); (repeat ((first | refine qT ?_ | refine qF ?_ | refine qO ?_ | (with_reducible intro z hz); (first | (replace hz := hz (by omega); subst hz) | subst hz)); (try (conv => whnf))))
 refine hLP _ _ _ Nat (fun k => ⟨[(0, .imm (.sl 2 (L.map spv))), (3, .imm (.sl 1 ((pts (L.take k)).map zv))), (4, .imm (.int .i64 (k : Nat)))], []⟩) (fun k => k ≤ L.length) (fun k => L.length - k) 0 (Nat.zero_le _) ((WeakA.frozen 0 ([zv 0]) rfl (by first | rfl | simp) (ILe.refl _) (by repeat (first | exact trivial | refine And.intro (fzL_imm _ _ _ _) ?_ | refine And.intro rfl ?_))).trans (qSL 0 rfl rfl)) ?_
 intro k hk
 have hho := Nat.lt_or_ge k L.length
 cases hho with
 | inl hlt =>
   obtain ⟨⟨f, t⟩, hx⟩ : ∃ x, L[k]? = some x := ⟨L[k], List.getElem?_eq_getElem hlt⟩
   have hst := pts_step L k hlt
   rw [fr_at hx, tu_at hx] at hst
   have hl0 := pts_len (L.take k)
   rw [List.length_take, Nat.min_eq_left hk] at hl0
   generalize pts (L.take k) = zs at *
   have hQ1 := put_pc zs f (by omega)
   have hlp := (len_putP zs f).2.1
   have hQ2 := put_pc (putP zs f) t (by omega)
   have hQ3 := put_pc zs t (by omega)
   dsimp only at hst
   by_cases f0 : 0 < f
   · by_cases f1 : f ≤ 1048576
     · rw [step_in zs f f0 f1] at hst
       clear hQ3
       by_cases t0 : 0 < t
       · by_cases t1 : t ≤ 1048576
         · rw [step_in _ t t0 t1] at hst
           (try (conv => whnf)); (repeat ((first | refine qT ?_ | refine qF ?_ | refine qO ?_ | (with_reducible intro z hz); (first | (replace hz := hz (by omega); subst hz) | subst hz)); (try (conv => whnf))))
           repeat (refine Idx.mk k (spv (f, t)) _ rfl (by simp [hx]) rfl ?_; (try (conv => whnf)); (repeat ((first | refine qT ?_ | refine qF ?_ | refine qO ?_ | (with_reducible intro z hz); (first | (replace hz := hz (by omega); subst hz) | subst hz)); (try (conv => whnf)))))
           refine CallV.mk _ (hC _ _ _ (PCw.of (hQ1))) (fun js hjs => ?_); subst hjs
           (try (conv => whnf)); (repeat ((first | refine qT ?_ | refine qF ?_ | refine qO ?_ | (with_reducible intro z hz); (first | (replace hz := hz (by omega); subst hz) | subst hz)); (try (conv => whnf))))
           repeat (refine Idx.mk k (spv (f, t)) _ rfl (by simp [hx]) rfl ?_; (try (conv => whnf)); (repeat ((first | refine qT ?_ | refine qF ?_ | refine qO ?_ | (with_reducible intro z hz); (first | (replace hz := hz (by omega); subst hz) | subst hz)); (try (conv => whnf)))))
           refine CallV.mk _ (hC _ _ _ (PCw.of (hQ2))) (fun js hjs => ?_); subst hjs
           (try (conv => whnf)); (repeat ((first | refine qT ?_ | refine qF ?_ | refine qO ?_ | (with_reducible intro z hz); (first | (replace hz := hz (by omega); subst hz) | subst hz)); (try (conv => whnf))))
           refine ⟨k + 1, by omega, by dsimp only; omega, ?_⟩
           dsimp only []
           rw [hst]
           exact (qSL 0 rfl rfl)
         · rw [step_high _ t t1] at hst
           (try (conv => whnf)); (repeat ((first | refine qT ?_ | refine qF ?_ | refine qO ?_ | (with_reducible intro z hz); (first | (replace hz := hz (by omega); subst hz) | subst hz)); (try (conv => whnf))))
           repeat (refine Idx.mk k (spv (f, t)) _ rfl (by simp [hx]) rfl ?_; (try (conv => whnf)); (repeat ((first | refine qT ?_ | refine qF ?_ | refine qO ?_ | (with_reducible intro z hz); (first | (replace hz := hz (by omega); subst hz) | subst hz)); (try (conv => whnf)))))
           refine CallV.mk _ (hC _ _ _ (PCw.of (hQ1))) (fun js hjs => ?_); subst hjs
           (try (conv => whnf)); (repeat ((first | refine qT ?_ | refine qF ?_ | refine qO ?_ | (with_reducible intro z hz); (first | (replace hz := hz (by omega); subst hz) | subst hz)); (try (conv => whnf))))
           repeat (refine Idx.mk k (spv (f, t)) _ rfl (by simp [hx]) rfl ?_; (try (conv => whnf)); (repeat ((first | refine qT ?_ | refine qF ?_ | refine qO ?_ | (with_reducible intro z hz); (first | (replace hz := hz (by omega); subst hz) | subst hz)); (try (conv => whnf)))))
           refine ⟨k + 1, by omega, by dsimp only; omega, ?_⟩
           dsimp only []
           rw [hst]
           exact (qSL 0 rfl rfl)
       · rw [step_low _ t t0] at hst
         (try (conv => whnf)); (repeat ((first | refine qT ?_ | refine qF ?_ | refine qO ?_ | (with_reducible intro z hz); (first | (replace hz := hz (by omega); subst hz) | subst hz)); (try (conv => whnf))))
         repeat (refine Idx.mk k (spv (f, t)) _ rfl (by simp [hx]) rfl ?_; (try (conv => whnf)); (repeat ((first | refine qT ?_ | refine qF ?_ | refine qO ?_ | (with_reducible intro z hz); (first | (replace hz := hz (by omega); subst hz) | subst hz)); (try (conv => whnf)))))
         refine CallV.mk _ (hC _ _ _ (PCw.of (hQ1))) (fun js hjs => ?_); subst hjs
         (try (conv => whnf)); (repeat ((first | refine qT ?_ | refine qF ?_ | refine qO ?_ | (with_reducible intro z hz); (first | (replace hz := hz (by omega); subst hz) | subst hz)); (try (conv => whnf))))
         repeat (refine Idx.mk k (spv (f, t)) _ rfl (by simp [hx]) rfl ?_; (try (conv => whnf)); (repeat ((first | refine qT ?_ | refine qF ?_ | refine qO ?_ | (with_reducible intro z hz); (first | (replace hz := hz (by omega); subst hz) | subst hz)); (try (conv => whnf)))))
         refine ⟨k + 1, by omega, by dsimp only; omega, ?_⟩
         dsimp only []
         rw [hst]
         exact (qSL 0 rfl rfl)
     · rw [step_high zs f f1] at hst
       clear hQ1 hQ2 hlp
       by_cases t0 : 0 < t
       · by_cases t1 : t ≤ 1048576
         · rw [step_in _ t t0 t1] at hst
           (try (conv => whnf)); (repeat ((first | refine qT ?_ | refine qF ?_ | refine qO ?_ | (with_reducible intro z hz); (first | (replace hz := hz (by omega); subst hz) | subst hz)); (try (conv => whnf))))
           repeat (refine Idx.mk k (spv (f, t)) _ rfl (by simp [hx]) rfl ?_; (try (conv => whnf)); (repeat ((first | refine qT ?_ | refine qF ?_ | refine qO ?_ | (with_reducible intro z hz); (first | (replace hz := hz (by omega); subst hz) | subst hz)); (try (conv => whnf)))))
           refine CallV.mk _ (hC _ _ _ (PCw.of (hQ3))) (fun js hjs => ?_); subst hjs
           (try (conv => whnf)); (repeat ((first | refine qT ?_ | refine qF ?_ | refine qO ?_ | (with_reducible intro z hz); (first | (replace hz := hz (by omega); subst hz) | subst hz)); (try (conv => whnf))))
           refine ⟨k + 1, by omega, by dsimp only; omega, ?_⟩
           dsimp only []
           rw [hst]
           exact (qSL 0 rfl rfl)
         · rw [step_high _ t t1] at hst
           (try (conv => whnf)); (repeat ((first | refine qT ?_ | refine qF ?_ | refine qO ?_ | (with_reducible intro z hz); (first | (replace hz := hz (by omega); subst hz) | subst hz)); (try (conv => whnf))))
           repeat (refine Idx.mk k (spv (f, t)) _ rfl (by simp [hx]) rfl ?_; (try (conv => whnf)); (repeat ((first | refine qT ?_ | refine qF ?_ | refine qO ?_ | (with_reducible intro z hz); (first | (replace hz := hz (by omega); subst hz) | subst hz)); (try (conv => whnf)))))
           refine ⟨k + 1, by omega, by dsimp only; omega, ?_⟩
           dsimp only []
           rw [hst]
           exact (qSL 0 rfl rfl)
       · rw [step_low _ t t0] at hst
         (try (conv => whnf)); (repeat ((first | refine qT ?_ | refine qF ?_ | refine qO ?_ | (with_reducible intro z hz); (first | (replace hz := hz (by omega); subst hz) | subst hz)); (try (conv => whnf))))
         repeat (refine Idx.mk k (spv (f, t)) _ rfl (by simp [hx]) rfl ?_; (try (conv => whnf)); (repeat ((first | refine qT ?_ | refine qF ?_ | refine qO ?_ | (with_reducible intro z hz); (first | (replace hz := hz (by omega); subst hz) | subst hz)); (try (conv => whnf)))))
         refine ⟨k + 1, by omega, by dsimp only; omega, ?_⟩
         dsimp only []
         rw [hst]
         exact (qSL 0 rfl rfl)
   · rw [step_low zs f f0] at hst
     clear hQ1 hQ2 hlp
     by_cases t0 : 0 < t
     · by_cases t1 : t ≤ 1048576
       · rw [step_in _ t t0 t1] at hst
         (try (conv => whnf)); (repeat ((first | refine qT ?_ | refine qF ?_ | refine qO ?_ | (with_reducible intro z hz); (first | (replace hz := hz (by omega); subst hz) | subst hz)); (try (conv => whnf))))
         repeat (refine Idx.mk k (spv (f, t)) _ rfl (by simp [hx]) rfl ?_; (try (conv => whnf)); (repeat ((first | refine qT ?_ | refine qF ?_ | refine qO ?_ | (with_reducible intro z hz); (first | (replace hz := hz (by omega); subst hz) | subst hz)); (try (conv => whnf)))))
         refine CallV.mk _ (hC _ _ _ (PCw.of (hQ3))) (fun js hjs => ?_); subst hjs
         (try (conv => whnf)); (repeat ((first | refine qT ?_ | refine qF ?_ | refine qO ?_ | (with_reducible intro z hz); (first | (replace hz := hz (by omega); subst hz) | subst hz)); (try (conv => whnf))))
         refine ⟨k + 1, by omega, by dsimp only; omega, ?_⟩
         dsimp only []
         rw [hst]
         exact (qSL 0 rfl rfl)
       · rw [step_high _ t t1] at hst
         (try (conv => whnf)); (repeat ((first | refine qT ?_ | refine qF ?_ | refine qO ?_ | (with_reducible intro z hz); (first | (replace hz := hz (by omega); subst hz) | subst hz)); (try (conv => whnf))))
         repeat (refine Idx.mk k (spv (f, t)) _ rfl (by simp [hx]) rfl ?_; (try (conv => whnf)); (repeat ((first | refine qT ?_ | refine qF ?_ | refine qO ?_ | (with_reducible intro z hz); (first | (replace hz := hz (by omega); subst hz) | subst hz)); (try (conv => whnf)))))
         refine ⟨k + 1, by omega, by dsimp only; omega, ?_⟩
         dsimp only []
         rw [hst]
         exact (qSL 0 rfl rfl)
     · rw [step_low _ t t0] at hst
       (try (conv => whnf)); (repeat ((first | refine qT ?_ | refine qF ?_ | refine qO ?_ | (with_reducible intro z hz); (first | (replace hz := hz (by omega); subst hz) | subst hz)); (try (conv => whnf))))
       repeat (refine Idx.mk k (spv (f, t)) _ rfl (by simp [hx]) rfl ?_; (try (conv => whnf)); (repeat ((first | refine qT ?_ | refine qF ?_ | refine qO ?_ | (with_reducible intro z hz); (first | (replace hz := hz (by omega); subst hz) | subst hz)); (try (conv => whnf)))))
       refine ⟨k + 1, by omega, by dsimp only; omega, ?_⟩
       dsimp only []
       rw [hst]
       exact (qSL 0 rfl rfl)
 | inr hge =>
   obtain rfl : k = L.length := by omega
   rw [List.take_length]
   (try (conv => whnf)); (repeat ((first | refine qT ?_ | refine qF ?_ | refine qO ?_ | (with_reducible intro z hz); (first | (replace hz := hz (by omega); subst hz) | subst hz)); (try (conv => whnf))))
   exact hfin _ (ILes.refl _)
end Go.Proofs.Ytmgjpmjmondplaa.Pe
