/-
  The reference's First and Units.
-/
import Derived.Test.YtopohipcpomecaaDoorWDk
namespace Go.Proofs.YtopohipcpomecaaDoor.Pd
open Go Go.Pv Go.RowKit Go.Proofs.YtopohipcpomecaaDoor.Pu Go.Proofs.YtopohipcpomecaaDoor.Pb
set_option linter.unusedSimpArgs false
open Lab Lcs Go.Proofs.YtopohipcpomecaaDoor
set_option maxRecDepth 10000
set_option maxHeartbeats 16000000
def zeroU : Ut := .mk ⟨0, 0, 0⟩ 0 ⟨#[]⟩ [] [] []
theorem zero_le : ILe (.agg [.int .i64 0, .int .i64 0, .int .i64 0, .int .i64 0, .str ⟨#[]⟩, .nil, .nil, .nil]) (uv zeroU) := by
 show ILe _ (uv (.mk ⟨0, 0, 0⟩ 0 ⟨#[]⟩ [] [] []))
 rw [uv_mk]
 exact ILes.agg (.cons (.refl _) (.cons (.refl _) (.cons (.refl _) (.cons (.refl _) (.cons (.refl _) (.cons (.nil 4) (.cons (.nil 4) (.cons (.nil 8) (.refl [])))))))))
def firstU (t : Trip) : List Ut → Option Ut
 | [] => none
 | x :: r => if x.id = t then some x else firstU t r
theorem first_drop {t : Trip} {l : List Ut} {k : Nat} {x : Ut} (hx : l[k]? = some x) : firstU t (l.drop k) = if x.id = t then some x else firstU t (l.drop (k + 1)) := by
 obtain ⟨h, he⟩ := List.getElem?_eq_some_iff.1 hx
 rw [List.drop_eq_getElem_cons h, he, firstU]
def firstR : Option Ut → List IV
 | some x => [uv x, .bool true]
 | none => [.agg [.int .i64 0, .int .i64 0, .int .i64 0, .int .i64 0, .str ⟨#[]⟩, .nil, .nil, .nil], .bool false]
theorem first_pc (l : List Ut) (t : Trip) (_hl : l.length ≤ 1000000000) : PC Tryd.prog envH 41 [.sl 8 (l.map uv), idv t] (firstR (firstU t l)) := by
 have h1 : (l.map uv).length = l.length := List.length_map _
 obtain ⟨R, hRR⟩ : ∃ R, firstU t l = R := ⟨_, rfl⟩
 rw [hRR]
 show PC Tryd.prog envH _ [.sl 8 (l.map uv), .agg [.int .i64 t.x, .int .i64 t.y, .int .i64 t.z]] _
 refine PC.of_va (T := tbi) eqs_ok tbi_ok rfl mixed Tryd.func41 rfl rfl (Nat.le_of_ble_eq_true rfl) ?_; intro Γ C WK LP fin h0 hW hC hB hR hLP hfin
 (try (conv => whnf)); (repeat ((first | refine qT ?_ | refine qF ?_ | refine qO ?_ | (with_reducible intro z hz); (first | (replace hz := hz (by omega); subst hz) | subst hz)); (try (conv => whnf))))
 refine hLP _ _ _ Nat (fun k => ⟨[(0, .imm (.sl 8 (l.map uv))), (3, .ptr 0 1 0), (4, .ptr 1 1 0), (6, .imm (.int .i64 (k : Nat)))], [.box 1 [.imm (.int .i64 t.x), .imm (.int .i64 t.y), .imm (.int .i64 t.z)], .box 1 [.imm (.int .i64 0), .imm (.int .i64 0), .imm (.int .i64 0), .imm (.int .i64 0), .imm (.str ⟨#[]⟩), .imm .nil, .imm .nil, .imm .nil]]⟩) (fun k => k ≤ l.length ∧ R = firstU t (l.drop k)) (fun k => l.length - k) 0 ⟨Nat.zero_le _, by rw [List.drop_zero]; exact hRR.symm⟩ (qSL 2 rfl rfl) ?_
 rintro k ⟨hk, hinv⟩
 have hho := Nat.lt_or_ge k l.length
 cases hho with
 | inl hlt =>
   obtain ⟨x, hx⟩ : ∃ x, l[k]? = some x := ⟨l[k], List.getElem?_eq_getElem hlt⟩
   have hux := uv_eq x
   have hfd := first_drop (t := t) hx
   by_cases hxt : x.id = t
   · have hi := tr_eq hxt
     rw [if_pos hxt] at hfd
     rw [hfd] at hinv
     subst hinv
     (try (conv => whnf)); (repeat ((first | refine qT ?_ | refine qF ?_ | refine qO ?_ | (with_reducible intro z hz); (first | (replace hz := hz (by omega); subst hz) | subst hz)); (try (conv => whnf))))
     refine Idx.mk k (uv x) _ rfl (by simp [hx]) (by rw [hux]; try rfl) ?_
     (try (conv => whnf)); (repeat ((first | refine qT ?_ | refine qF ?_ | refine qO ?_ | (with_reducible intro z hz); (first | (replace hz := hz (by omega); subst hz) | subst hz)); (try (conv => whnf))))
     refine Idx.mk k (uv x) _ rfl (by simp [hx]) (by rw [hux]; try rfl) ?_
     (try (conv => whnf)); (repeat ((first | refine qT ?_ | refine qF ?_ | refine qO ?_ | (with_reducible intro z hz); (first | (replace hz := hz (by omega); subst hz) | subst hz)); (try (conv => whnf))))
     rw [firstR, hux] at hfin
     exact hfin _ (ILes.refl _)
   · have hi := tr_ne hxt
     rw [if_neg hxt] at hfd
     (try (conv => whnf)); (repeat ((first | refine qT ?_ | refine qF ?_ | refine qO ?_ | (with_reducible intro z hz); (first | (replace hz := hz (by omega); subst hz) | subst hz)); (try (conv => whnf))))
     refine Idx.mk k (uv x) _ rfl (by simp [hx]) (by rw [hux]; try rfl) ?_
     (try (conv => whnf)); (repeat ((first | refine qT ?_ | refine qF ?_ | refine qO ?_ | (with_reducible intro z hz); (first | (replace hz := hz (by omega); subst hz) | subst hz)); (try (conv => whnf))))
     exact ⟨k + 1, ⟨by omega, by rw [hinv, hfd]⟩, by dsimp only; omega, (qSL 2 rfl rfl)⟩
 | inr hge =>
   obtain rfl : k = l.length := by omega
   rw [List.drop_length] at hinv
   subst hinv
   (try (conv => whnf)); (repeat ((first | refine qT ?_ | refine qF ?_ | refine qO ?_ | (with_reducible intro z hz); (first | (replace hz := hz (by omega); subst hz) | subst hz)); (try (conv => whnf))))
   exact hfin _ (ILes.refl _)
end Go.Proofs.YtopohipcpomecaaDoor.Pd
