/-
  The program's Authors.
-/
import Derived.Test.YtckamfmllkpafaaWMb
namespace Go.Proofs.Ytckamfmllkpafaa.Pw
open Go Go.Pv Go.RowKit Go.Proofs.Ytckamfmllkpafaa.Pu Go.Proofs.Ytckamfmllkpafaa.Pb
set_option linter.unusedSimpArgs false
open Lab Lcs Go.Proofs.Ytckamfmllkpafaa
set_option maxRecDepth 10000
set_option maxHeartbeats 16000000
def tbm : Tb := ⟨Pv.look tdr, eqr, fun _ => none, fun _ => [], fun _ => false, fun f => match f with | 32 => 1 | 36 => 1 | _ => 0⟩
theorem tbm_ok : ∀ t d, tbm.td t = some d → tdOf Try.prog t = some d := Pv.look_ok tdr_ok
theorem authors_pc (w : List Wd) (hw : w.length ≤ 100000) : PC Try.prog env0 19 [.sl 4 (w.map wdv)] [.sl 2 ((authL w []).map rfv)] := by
 have h1 : (w.map wdv).length = w.length := List.length_map _
 have hS := sortR_pcb (w.map refW) (by rw [List.length_map]; omega)
 have hC := compact_pcb (srtR (w.map refW)) (by rw [srtR_len, List.length_map]; omega)
 rw [ded_srt] at hC
 rcases hC with hC2 | hC2
 · refine PC.of_va (T := tbm) eqr_ok tbm_ok rfl mixed Try.func19 rfl rfl (Nat.le_of_ble_eq_true rfl) ?_; intro Γ C WK LP fin h0 hW hC hB hR hLP hfin
   (try (conv => whnf)); (repeat ((first | refine qT ?_ | refine qF ?_ | refine qO ?_ | (with_reducible intro z hz); (first | (replace hz := hz (by omega); subst hz) | subst hz)); (try (conv => whnf))))
   refine hLP _ _ _ Nat (fun k => ⟨[(3, .row 0 1), (6, .imm (.sl 4 (w.map wdv))), (7, .imm (.int .i64 (w.length : Nat))), (8, .imm (.int .i64 (k : Nat)))], [.row 63 2 1 (rows ((w.take k).map refW))]⟩) (fun k => k ≤ w.length) (fun k => w.length - k) 0 (Nat.zero_le _) ((WeakA.nilSlot 3 63 2 (Nat.le_of_ble_eq_true rfl) rfl).trans ((WeakA.row 0 (rows ((w.take 0).map refW)) rfl (by simp [rows])).trans (qSL 1 rfl rfl))) ?_
   intro k hk
   have hho := Nat.lt_or_ge k w.length
   cases hho with
   | inl hlt =>
     obtain ⟨x, hx⟩ : ∃ x, w[k]? = some x := ⟨w[k], List.getElem?_eq_getElem hlt⟩
     have hrk : (rows ((w.take k).map refW)).length = k := by simp; omega
     (try (conv => whnf)); (repeat ((first | refine qT ?_ | refine qF ?_ | refine qO ?_ | (with_reducible intro z hz); (first | (replace hz := hz (by omega); subst hz) | subst hz)); (try (conv => whnf))))
     refine Idx.mk k (wdv x) _ rfl (by simp [hx]) rfl ?_
     (try (conv => whnf)); (repeat ((first | refine qT ?_ | refine qF ?_ | refine qO ?_ | (with_reducible intro z hz); (first | (replace hz := hz (by omega); subst hz) | subst hz)); (try (conv => whnf))))
     exact ⟨k + 1, by omega, by dsimp only; omega, ((WeakA.row 0 (rows ((w.take (k + 1)).map refW)) rfl (by rw [take_at hx]; simp [rows]; rfl))).trans ((WeakA.renew 0 1 rfl (by first | omega | (intro _; rw [hk0 _ _ rfl]; exact Nat.le_of_ble_eq_true rfl)) (by repeat (first | exact trivial | refine And.intro (rgL_imms _ _ _ _) ?_ | refine And.intro rfl ?_))).trans (qSL 1 rfl rfl))⟩
   | inr hge =>
     obtain rfl : k = w.length := by omega
     rw [List.take_length]
     (try (conv => whnf)); (repeat ((first | refine qT ?_ | refine qF ?_ | refine qO ?_ | (with_reducible intro z hz); (first | (replace hz := hz (by omega); subst hz) | subst hz)); (try (conv => whnf))))
     refine Imms.mk ((w.map refW).map rfv) rfl ?_
     (try (conv => whnf)); (repeat ((first | refine qT ?_ | refine qF ?_ | refine qO ?_ | (with_reducible intro z hz); (first | (replace hz := hz (by omega); subst hz) | subst hz)); (try (conv => whnf))))
     refine CallB.mk ([]) ([.row 63 2 1 ((srtR (w.map refW)).map rfv)]) (hB _ _ _ _ _ (hS)) ?_
     (try (conv => whnf)); (repeat ((first | refine qT ?_ | refine qF ?_ | refine qO ?_ | (with_reducible intro z hz); (first | (replace hz := hz (by omega); subst hz) | subst hz)); (try (conv => whnf))))
     refine Imms.mk ((srtR (w.map refW)).map rfv) rfl ?_
     (try (conv => whnf)); (repeat ((first | refine qT ?_ | refine qF ?_ | refine qO ?_ | (with_reducible intro z hz); (first | (replace hz := hz (by omega); subst hz) | subst hz)); (try (conv => whnf))))
     refine CallB.mk ([.row 0 1]) ([.row 63 2 1 ((authL w []).map rfv)]) (hB _ _ _ _ _ (hC2)) ?_
     (try (conv => whnf)); (repeat ((first | refine qT ?_ | refine qF ?_ | refine qO ?_ | (with_reducible intro z hz); (first | (replace hz := hz (by omega); subst hz) | subst hz)); (try (conv => whnf))))
     refine Imms.mk ((authL w []).map rfv) rfl ?_
     (try (conv => whnf)); (repeat ((first | refine qT ?_ | refine qF ?_ | refine qO ?_ | (with_reducible intro z hz); (first | (replace hz := hz (by omega); subst hz) | subst hz)); (try (conv => whnf))))
     exact hfin _ (ILes.refl _)
 · refine PC.of_va (T := tbm) eqr_ok tbm_ok rfl mixed Try.func19 rfl rfl (Nat.le_of_ble_eq_true rfl) ?_; intro Γ C WK LP fin h0 hW hC hB hR hLP hfin
   (try (conv => whnf)); (repeat ((first | refine qT ?_ | refine qF ?_ | refine qO ?_ | (with_reducible intro z hz); (first | (replace hz := hz (by omega); subst hz) | subst hz)); (try (conv => whnf))))
   refine hLP _ _ _ Nat (fun k => ⟨[(3, .row 0 1), (6, .imm (.sl 4 (w.map wdv))), (7, .imm (.int .i64 (w.length : Nat))), (8, .imm (.int .i64 (k : Nat)))], [.row 63 2 1 (rows ((w.take k).map refW))]⟩) (fun k => k ≤ w.length) (fun k => w.length - k) 0 (Nat.zero_le _) ((WeakA.nilSlot 3 63 2 (Nat.le_of_ble_eq_true rfl) rfl).trans ((WeakA.row 0 (rows ((w.take 0).map refW)) rfl (by simp [rows])).trans (qSL 1 rfl rfl))) ?_
   intro k hk
   have hho := Nat.lt_or_ge k w.length
   cases hho with
   | inl hlt =>
     obtain ⟨x, hx⟩ : ∃ x, w[k]? = some x := ⟨w[k], List.getElem?_eq_getElem hlt⟩
     have hrk : (rows ((w.take k).map refW)).length = k := by simp; omega
     (try (conv => whnf)); (repeat ((first | refine qT ?_ | refine qF ?_ | refine qO ?_ | (with_reducible intro z hz); (first | (replace hz := hz (by omega); subst hz) | subst hz)); (try (conv => whnf))))
     refine Idx.mk k (wdv x) _ rfl (by simp [hx]) rfl ?_
     (try (conv => whnf)); (repeat ((first | refine qT ?_ | refine qF ?_ | refine qO ?_ | (with_reducible intro z hz); (first | (replace hz := hz (by omega); subst hz) | subst hz)); (try (conv => whnf))))
     exact ⟨k + 1, by omega, by dsimp only; omega, ((WeakA.row 0 (rows ((w.take (k + 1)).map refW)) rfl (by rw [take_at hx]; simp [rows]; rfl))).trans ((WeakA.renew 0 1 rfl (by first | omega | (intro _; rw [hk0 _ _ rfl]; exact Nat.le_of_ble_eq_true rfl)) (by repeat (first | exact trivial | refine And.intro (rgL_imms _ _ _ _) ?_ | refine And.intro rfl ?_))).trans (qSL 1 rfl rfl))⟩
   | inr hge =>
     obtain rfl : k = w.length := by omega
     rw [List.take_length]
     (try (conv => whnf)); (repeat ((first | refine qT ?_ | refine qF ?_ | refine qO ?_ | (with_reducible intro z hz); (first | (replace hz := hz (by omega); subst hz) | subst hz)); (try (conv => whnf))))
     refine Imms.mk ((w.map refW).map rfv) rfl ?_
     (try (conv => whnf)); (repeat ((first | refine qT ?_ | refine qF ?_ | refine qO ?_ | (with_reducible intro z hz); (first | (replace hz := hz (by omega); subst hz) | subst hz)); (try (conv => whnf))))
     refine CallB.mk ([]) ([.row 63 2 1 ((srtR (w.map refW)).map rfv)]) (hB _ _ _ _ _ (hS)) ?_
     (try (conv => whnf)); (repeat ((first | refine qT ?_ | refine qF ?_ | refine qO ?_ | (with_reducible intro z hz); (first | (replace hz := hz (by omega); subst hz) | subst hz)); (try (conv => whnf))))
     refine Imms.mk ((srtR (w.map refW)).map rfv) rfl ?_
     (try (conv => whnf)); (repeat ((first | refine qT ?_ | refine qF ?_ | refine qO ?_ | (with_reducible intro z hz); (first | (replace hz := hz (by omega); subst hz) | subst hz)); (try (conv => whnf))))
     refine CallB.mk ([.row 0 2]) ([.row 63 2 2 ((authL w []).map rfv)]) (hB _ _ _ _ _ (hC2)) ?_
     (try (conv => whnf)); (repeat ((first | refine qT ?_ | refine qF ?_ | refine qO ?_ | (with_reducible intro z hz); (first | (replace hz := hz (by omega); subst hz) | subst hz)); (try (conv => whnf))))
     refine Imms.mk ((authL w []).map rfv) rfl ?_
     (try (conv => whnf)); (repeat ((first | refine qT ?_ | refine qF ?_ | refine qO ?_ | (with_reducible intro z hz); (first | (replace hz := hz (by omega); subst hz) | subst hz)); (try (conv => whnf))))
     exact hfin _ (ILes.refl _)
end Go.Proofs.Ytckamfmllkpafaa.Pw
