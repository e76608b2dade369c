/-
  The reference's Units.
-/
import Derived.Test.YtiohjjgncbhimaaDoorWAr
import Derived.Test.YtiohjjgncbhimaaDoorWAx
namespace Go.Proofs.YtiohjjgncbhimaaDoor.Pa
open Go Go.Pv Go.Proofs.YtiohjjgncbhimaaDoor.Pu
set_option linter.unusedSimpArgs false
open Lab Lcs Go.Proofs.YtiohjjgncbhimaaDoor Go.RowKit
set_option maxRecDepth 10000
set_option maxHeartbeats 32000000
theorem units_pc (u : Ut) (p : List Stp) (hc : u.count ≤ 10000) (hp : ∀ s ∈ p, shortS s) : PC Tryd.prog envU 27 [uv u, .sl 2 (p.map spv)] [.sl 8 ((unitsM u p).map uv)] := by
 have hV := rmay_pc p hp
 have hml : (p.map spv).length = p.length := List.length_map _
 have hue := uv_eq u
 unfold unitsM
 cases hb : mayA p with
 | false =>
   rw [hb] at hV
   rw [hue, if_neg (by simp)]
   refine PC.of_va (T := tb0) eqs2_ok tb_ok rfl mixed Tryd.func27 rfl rfl (Nat.le_of_ble_eq_true rfl) ?_; intro Γ C WK LP fin h0 hW hC hB hR hLP hfin
   (try (conv => whnf)); (repeat ((first | (with_reducible refine Fork.T (fun hc => ?_) ?_); (exfalso; first | omega | (simp [eqC, cellsI, idv, idl] at hc; first | done | omega) | contradiction) | (with_reducible refine Fork.F (fun hc => ?_) ?_); (exfalso; first | omega | (simp [eqC, cellsI, idv, idl] at hc; first | done | omega) | contradiction) | (with_reducible refine Owe.mk ?_ ?_); (first | omega | (unfold most; omega) | decide +kernel | exact Nat.le_of_ble_eq_true rfl | assumption | (simp [most]; omega)) | (with_reducible intro z hz); (first | (replace hz := hz (by omega); subst hz) | subst hz)); (try (conv => whnf))))
   refine CallV.mk _ (hC _ _ _ (PCw.of (hV))) (fun js hjs => ?_); subst hjs
   (try (conv => whnf)); (repeat ((first | (with_reducible refine Fork.T (fun hc => ?_) ?_); (exfalso; first | omega | (simp [eqC, cellsI, idv, idl] at hc; first | done | omega) | contradiction) | (with_reducible refine Fork.F (fun hc => ?_) ?_); (exfalso; first | omega | (simp [eqC, cellsI, idv, idl] at hc; first | done | omega) | contradiction) | (with_reducible refine Owe.mk ?_ ?_); (first | omega | (unfold most; omega) | decide +kernel | exact Nat.le_of_ble_eq_true rfl | assumption | (simp [most]; omega)) | (with_reducible intro z hz); (first | (replace hz := hz (by omega); subst hz) | subst hz)); (try (conv => whnf))))
   exact hfin _ ⟨_, _, rfl, ILe.nil _, ILes.refl _⟩
 | true =>
   rw [hb] at hV
   rw [if_pos rfl]
   cases p with
   | nil =>
     rw [hue]
     refine PC.of_va (T := tb0) eqs2_ok tb_ok rfl mixed Tryd.func27 rfl rfl (Nat.le_of_ble_eq_true rfl) ?_; intro Γ C WK LP fin h0 hW hC hB hR hLP hfin
     (try (conv => whnf)); (repeat ((first | (with_reducible refine Fork.T (fun hc => ?_) ?_); (exfalso; first | omega | (simp [eqC, cellsI, idv, idl] at hc; first | done | omega) | contradiction) | (with_reducible refine Fork.F (fun hc => ?_) ?_); (exfalso; first | omega | (simp [eqC, cellsI, idv, idl] at hc; first | done | omega) | contradiction) | (with_reducible refine Owe.mk ?_ ?_); (first | omega | (unfold most; omega) | decide +kernel | exact Nat.le_of_ble_eq_true rfl | assumption | (simp [most]; omega)) | (with_reducible intro z hz); (first | (replace hz := hz (by omega); subst hz) | subst hz)); (try (conv => whnf))))
     refine CallV.mk _ (hC _ _ _ (PCw.of (hV))) (fun js hjs => ?_); subst hjs
     (try (conv => whnf)); (repeat ((first | (with_reducible refine Fork.T (fun hc => ?_) ?_); (exfalso; first | omega | (simp [eqC, cellsI, idv, idl] at hc; first | done | omega) | contradiction) | (with_reducible refine Fork.F (fun hc => ?_) ?_); (exfalso; first | omega | (simp [eqC, cellsI, idv, idl] at hc; first | done | omega) | contradiction) | (with_reducible refine Owe.mk ?_ ?_); (first | omega | (unfold most; omega) | decide +kernel | exact Nat.le_of_ble_eq_true rfl | assumption | (simp [most]; omega)) | (with_reducible intro z hz); (first | (replace hz := hz (by omega); subst hz) | subst hz)); (try (conv => whnf))))
     refine Imms.mk [uv u] (by rw [hue]; rfl) ?_
     exact hfin _ (ILes.refl _)
   | cons s r =>
     cases hbb : bookB s with
     | true => exact units_book u s r hc hp hb hbb
     | false => exact units_else u s r hc hp hb hbb
end Go.Proofs.YtiohjjgncbhimaaDoor.Pa
