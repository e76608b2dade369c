/-
  Contracts that the laws of trees with distinct IDs reach: apart, Valid, IDs; Same.
-/
import Derived.Test.YtbkbmeciaippmaaDoorR5
import Derived.Test.YtbkbmeciaippmaaDoorApt
import Derived.Test.YtbkbmeciaippmaaDoorR2
namespace Go.Proofs.YtbkbmeciaippmaaDoor.Pa
open Go Go.Pv Go.Proofs.YtbkbmeciaippmaaDoor.Pu
set_option linter.unusedSimpArgs false
open Lab Lcs Go.Proofs.YtbkbmeciaippmaaDoor Go.RowKit
set_option maxRecDepth 10000
set_option maxHeartbeats 16000000
theorem upN {f : FuncId} {args res : List IV} (h : PC Tryd.prog envU f args res) : PC Tryd.prog Pu.envU f args res := PC.up (X := envU) (Y := Pu.envU) (fun _ => rfl) (fun _ h => ⟨h.1, h.2.2⟩) h
theorem fitN {u : Ut} (h : Fit u) : FitN u := fun x hx => by
  obtain ⟨_, _, h1, h2, h3, h4, _, _⟩ := h x hx
  unfold maxLen at h1 h2 h3 h4
  omega
def shortB (p : List Stp) : Bool := p.all (fun s => decide (s.label.size ≤ 100)) && decide (p.length ≤ 20)
theorem shortB_facts {p : List Stp} (h : shortB p = true) : (∀ s ∈ p, shortS s) ∧ p.length ≤ 20 := by
  unfold shortB at h
  simp only [Bool.and_eq_true, decide_eq_true_eq, List.all_eq_true] at h
  refine ⟨fun s hs => ?_, h.2⟩
  have := h.1 s hs
  unfold shortS
  omega
theorem tame_few {u : Ut} (h : fewB u = true) : Tame u := by
  obtain ⟨h1, h2, h3⟩ := fewB_facts h
  refine ⟨by omega, fun x hx => ?_⟩
  have := h2 x hx
  unfold TameU
  omega
theorem apart_pc (X : Env) (u : Ut) (hok : okU u) (hM : u.count ≤ 1000000000) : PC Tryd.prog X 56 [uv u] [.bool (decide u.ids.Nodup)] :=
  lift_bool (enters_of Tryd.func56 rfl rfl) fun Q w vs hQ _ hvs => by
    unfold RepIs at hvs
    obtain ⟨v, r, rfl, h1, h2⟩ := hvs
    unfold RepIs at h2
    subst h2
    exact apart_any u v w (utv_to hQ hok h1) hM
theorem same7_pc (a b : List Stp) (ha : a.length ≤ 100000000) : PC Tryd.prog envU 48 [.sl 2 (a.map spv), .sl 2 (b.map spv)] [.bool (decide (a = b))] := by
  have h1 : (a.map spv).length = a.length := List.length_map _
  have h2 : (b.map spv).length = b.length := List.length_map _
  by_cases hl : a.length = b.length
  · refine PC.of_va (T := tb0) eqs2_ok tb_ok rfl mixed Tryd.func48 rfl rfl (Nat.le_of_ble_eq_true rfl) ?_; intro Γ C WK LP fin h0 hW hC hB hR hLP hfin
    (try (conv => whnf)); (repeat ((first | (with_reducible refine Fork.T (fun hc => ?_) ?_); (exfalso; first | omega | (simp [eqC, cellsI, idv, idl] at hc; first | done | omega) | contradiction) | (with_reducible refine Fork.F (fun hc => ?_) ?_); (exfalso; first | omega | (simp [eqC, cellsI, idv, idl] at hc; first | done | omega) | contradiction) | (with_reducible refine Owe.mk ?_ ?_); (first | omega | (unfold most; omega) | decide +kernel | exact Nat.le_of_ble_eq_true rfl | assumption | (simp [most]; omega)) | (with_reducible intro z hz); (first | (replace hz := hz (by omega); subst hz) | subst hz)); (try (conv => whnf))))
    refine hLP _ _ _ Nat (fun k => ⟨[(0, .imm (.sl 2 (a.map spv))), (1, .imm (.sl 2 (b.map spv))), (5, .imm (.int .i64 (k : Nat)))], []⟩) (fun k => k ≤ a.length ∧ a.take k = b.take k) (fun k => a.length - k) 0 ⟨Nat.zero_le _, rfl⟩ (WeakA.slots 0 (by first | omega | (rw [h0]; exact Nat.le_of_ble_eq_true rfl)) rfl rfl (by first | (simp only [List.all_cons, List.all_nil, blkBelow, belowL_imm, belowL, belowB, Bool.and_true, Bool.true_and]; first | done | decide) | rfl | simp [blkBelow, belowB, belowL, belowL_imm]) (by (repeat ((conv => whnf); first | exact trivial | refine And.intro (by first | exact WkOne.any | exact WkOne.eq (by with_reducible rfl) rfl | exact WkOne.int (by first | omega | (simp; first | done | omega)) | exact WkOne.eq rfl rfl | exact WkOne.le rfl (ILe.nil _)) ?_)))) ?_
    rintro k ⟨hk, hab⟩
    by_cases hlt : k < a.length
    · obtain ⟨x, hx⟩ := at_k hlt
      obtain ⟨y, hy⟩ := at_k (l := b) (k := k) (by omega)
      by_cases hxy : x = y
      · have hi := step_eq hxy
        (try (conv => whnf)); (repeat ((first | (with_reducible refine Fork.T (fun hc => ?_) ?_); (exfalso; first | omega | (simp [eqC, cellsI, idv, idl] at hc; first | done | omega) | contradiction) | (with_reducible refine Fork.F (fun hc => ?_) ?_); (exfalso; first | omega | (simp [eqC, cellsI, idv, idl] at hc; first | done | omega) | contradiction) | (with_reducible refine Owe.mk ?_ ?_); (first | omega | (unfold most; omega) | decide +kernel | exact Nat.le_of_ble_eq_true rfl | assumption | (simp [most]; omega)) | (with_reducible intro z hz); (first | (replace hz := hz (by omega); subst hz) | subst hz)); (try (conv => whnf))))
        refine Idx.mk k (spv x) _ rfl (by simp [hx]) rfl ?_
        (try (conv => whnf)); (repeat ((first | (with_reducible refine Fork.T (fun hc => ?_) ?_); (exfalso; first | omega | (simp [eqC, cellsI, idv, idl] at hc; first | done | omega) | contradiction) | (with_reducible refine Fork.F (fun hc => ?_) ?_); (exfalso; first | omega | (simp [eqC, cellsI, idv, idl] at hc; first | done | omega) | contradiction) | (with_reducible refine Owe.mk ?_ ?_); (first | omega | (unfold most; omega) | decide +kernel | exact Nat.le_of_ble_eq_true rfl | assumption | (simp [most]; omega)) | (with_reducible intro z hz); (first | (replace hz := hz (by omega); subst hz) | subst hz)); (try (conv => whnf))))
        refine Idx.mk k (spv y) _ rfl (by simp [hy]) rfl ?_
        (try (conv => whnf)); (repeat ((first | (with_reducible refine Fork.T (fun hc => ?_) ?_); (exfalso; first | omega | (simp [eqC, cellsI, idv, idl] at hc; first | done | omega) | contradiction) | (with_reducible refine Fork.F (fun hc => ?_) ?_); (exfalso; first | omega | (simp [eqC, cellsI, idv, idl] at hc; first | done | omega) | contradiction) | (with_reducible refine Owe.mk ?_ ?_); (first | omega | (unfold most; omega) | decide +kernel | exact Nat.le_of_ble_eq_true rfl | assumption | (simp [most]; omega)) | (with_reducible intro z hz); (first | (replace hz := hz (by omega); subst hz) | subst hz)); (try (conv => whnf))))
        exact ⟨k + 1, ⟨by omega, by rw [List.take_add_one, List.take_add_one, hx, hy, hab, hxy]⟩, by dsimp only; omega, (WeakA.slots 0 (by first | omega | (rw [h0]; exact Nat.le_of_ble_eq_true rfl)) rfl rfl (by first | (simp only [List.all_cons, List.all_nil, blkBelow, belowL_imm, belowL, belowB, Bool.and_true, Bool.true_and]; first | done | decide) | rfl | simp [blkBelow, belowB, belowL, belowL_imm]) (by (repeat ((conv => whnf); first | exact trivial | refine And.intro (by first | exact WkOne.any | exact WkOne.eq (by with_reducible rfl) rfl | exact WkOne.int (by first | omega | (simp; first | done | omega)) | exact WkOne.eq rfl rfl | exact WkOne.le rfl (ILe.nil _)) ?_))))⟩
      · have hi := step_ne hxy
        (try (conv => whnf)); (repeat ((first | (with_reducible refine Fork.T (fun hc => ?_) ?_); (exfalso; first | omega | (simp [eqC, cellsI, idv, idl] at hc; first | done | omega) | contradiction) | (with_reducible refine Fork.F (fun hc => ?_) ?_); (exfalso; first | omega | (simp [eqC, cellsI, idv, idl] at hc; first | done | omega) | contradiction) | (with_reducible refine Owe.mk ?_ ?_); (first | omega | (unfold most; omega) | decide +kernel | exact Nat.le_of_ble_eq_true rfl | assumption | (simp [most]; omega)) | (with_reducible intro z hz); (first | (replace hz := hz (by omega); subst hz) | subst hz)); (try (conv => whnf))))
        refine Idx.mk k (spv x) _ rfl (by simp [hx]) rfl ?_
        (try (conv => whnf)); (repeat ((first | (with_reducible refine Fork.T (fun hc => ?_) ?_); (exfalso; first | omega | (simp [eqC, cellsI, idv, idl] at hc; first | done | omega) | contradiction) | (with_reducible refine Fork.F (fun hc => ?_) ?_); (exfalso; first | omega | (simp [eqC, cellsI, idv, idl] at hc; first | done | omega) | contradiction) | (with_reducible refine Owe.mk ?_ ?_); (first | omega | (unfold most; omega) | decide +kernel | exact Nat.le_of_ble_eq_true rfl | assumption | (simp [most]; omega)) | (with_reducible intro z hz); (first | (replace hz := hz (by omega); subst hz) | subst hz)); (try (conv => whnf))))
        refine Idx.mk k (spv y) _ rfl (by simp [hy]) rfl ?_
        (try (conv => whnf)); (repeat ((first | (with_reducible refine Fork.T (fun hc => ?_) ?_); (exfalso; first | omega | (simp [eqC, cellsI, idv, idl] at hc; first | done | omega) | contradiction) | (with_reducible refine Fork.F (fun hc => ?_) ?_); (exfalso; first | omega | (simp [eqC, cellsI, idv, idl] at hc; first | done | omega) | contradiction) | (with_reducible refine Owe.mk ?_ ?_); (first | omega | (unfold most; omega) | decide +kernel | exact Nat.le_of_ble_eq_true rfl | assumption | (simp [most]; omega)) | (with_reducible intro z hz); (first | (replace hz := hz (by omega); subst hz) | subst hz)); (try (conv => whnf))))
        refine hfin _ ?_
        have : a ≠ b := fun e => by
          rw [e, hy] at hx
          exact hxy (Option.some.inj hx).symm
        rw [decide_eq_false this]
        exact ILes.refl _
    · (try (conv => whnf)); (repeat ((first | (with_reducible refine Fork.T (fun hc => ?_) ?_); (exfalso; first | omega | (simp [eqC, cellsI, idv, idl] at hc; first | done | omega) | contradiction) | (with_reducible refine Fork.F (fun hc => ?_) ?_); (exfalso; first | omega | (simp [eqC, cellsI, idv, idl] at hc; first | done | omega) | contradiction) | (with_reducible refine Owe.mk ?_ ?_); (first | omega | (unfold most; omega) | decide +kernel | exact Nat.le_of_ble_eq_true rfl | assumption | (simp [most]; omega)) | (with_reducible intro z hz); (first | (replace hz := hz (by omega); subst hz) | subst hz)); (try (conv => whnf))))
      obtain rfl : k = a.length := by omega
      rw [List.take_length, hl, List.take_length] at hab
      refine hfin _ ?_
      rw [decide_eq_true hab]
      exact ILes.refl _
  · refine PC.of_va (T := tb0) eqs2_ok tb_ok rfl mixed Tryd.func48 rfl rfl (Nat.le_of_ble_eq_true rfl) ?_; intro Γ C WK LP fin h0 hW hC hB hR hLP hfin
    (try (conv => whnf)); (repeat ((first | (with_reducible refine Fork.T (fun hc => ?_) ?_); (exfalso; first | omega | (simp [eqC, cellsI, idv, idl] at hc; first | done | omega) | contradiction) | (with_reducible refine Fork.F (fun hc => ?_) ?_); (exfalso; first | omega | (simp [eqC, cellsI, idv, idl] at hc; first | done | omega) | contradiction) | (with_reducible refine Owe.mk ?_ ?_); (first | omega | (unfold most; omega) | decide +kernel | exact Nat.le_of_ble_eq_true rfl | assumption | (simp [most]; omega)) | (with_reducible intro z hz); (first | (replace hz := hz (by omega); subst hz) | subst hz)); (try (conv => whnf))))
    refine hfin _ ?_
    have : a ≠ b := fun e => hl (by rw [e])
    rw [decide_eq_false this]
    exact ILes.refl _
end Go.Proofs.YtbkbmeciaippmaaDoor.Pa
