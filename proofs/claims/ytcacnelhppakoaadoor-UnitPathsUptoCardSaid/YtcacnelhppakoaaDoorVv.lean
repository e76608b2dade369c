/-
  IDs, Alike; UnitLookup as a call of plain values.
-/
import Derived.Test.YtcacnelhppakoaaDoorM2
import Derived.Test.YtcacnelhppakoaaDoorFe
import Derived.Test.YtcacnelhppakoaaDoorCm
import Derived.Test.YtcacnelhppakoaaDoorSame
namespace Go.Proofs.YtcacnelhppakoaaDoor.Pu
open Go Go.Pv
set_option linter.unusedSimpArgs false
open Lab Lcs Go.Proofs.YtcacnelhppakoaaDoor
set_option maxRecDepth 10000
set_option maxHeartbeats 8000000
theorem ids_pc (u : Ut) (hM : u.count ≤ 100000000) : PC Tryd.prog envU 36 [uv u] [.sl 3 (u.ids.map idv)] := by
  have hue := uv_eq u
  have hI := every_pcb u.count u [] (Nat.le_refl _) (by simp; omega)
  rw [hue] at hI ⊢
  refine PC.of_vc (T := (tbh (fun _ => []) fun r => match r with | 2 => true | _ => false)) eqs_ok tb_ok rfl mixed Tryd.func36 rfl rfl ?_; intro Γ C WK LP fin h0 hW hC hB hR hLP hfin
  (repeat ((conv => whnf); first | (with_reducible refine Fork.mk (fun _ => ?_) (fun hc => ?_)); rotate_left; (exfalso; first | omega | (simp [eqC, cellsI, idv, idl] at hc; done) | (simp [eqC, cellsI, idv, idl] at hc; omega) | contradiction) | (with_reducible refine Fork.mk (fun hc => ?_) (fun _ => ?_)); (exfalso; first | omega | (simp [eqC, cellsI, idv, idl] at hc; done) | (simp [eqC, cellsI, idv, idl] at hc; omega) | contradiction) | (with_reducible refine Owe.mk ?_ ?_); (first | omega | (unfold most; omega) | decide +kernel | assumption | (simp [most]; done) | (simp [most]; omega)) | (with_reducible intro z hz); first | (replace hz := hz (by omega); subst hz) | subst hz)); try (conv => whnf)
  refine hW _ _ _ ((Weak.nilBox 1 0 23 3 rfl rfl)) ?_
  (repeat ((conv => whnf); first | (with_reducible refine Fork.mk (fun _ => ?_) (fun hc => ?_)); rotate_left; (exfalso; first | omega | (simp [eqC, cellsI, idv, idl] at hc; done) | (simp [eqC, cellsI, idv, idl] at hc; omega) | contradiction) | (with_reducible refine Fork.mk (fun hc => ?_) (fun _ => ?_)); (exfalso; first | omega | (simp [eqC, cellsI, idv, idl] at hc; done) | (simp [eqC, cellsI, idv, idl] at hc; omega) | contradiction) | (with_reducible refine Owe.mk ?_ ?_); (first | omega | (unfold most; omega) | decide +kernel | assumption | (simp [most]; done) | (simp [most]; omega)) | (with_reducible intro z hz); first | (replace hz := hz (by omega); subst hz) | subst hz)); try (conv => whnf)
  refine Imms.mk [] rfl ?_
  (repeat ((conv => whnf); first | (with_reducible refine Fork.mk (fun _ => ?_) (fun hc => ?_)); rotate_left; (exfalso; first | omega | (simp [eqC, cellsI, idv, idl] at hc; done) | (simp [eqC, cellsI, idv, idl] at hc; omega) | contradiction) | (with_reducible refine Fork.mk (fun hc => ?_) (fun _ => ?_)); (exfalso; first | omega | (simp [eqC, cellsI, idv, idl] at hc; done) | (simp [eqC, cellsI, idv, idl] at hc; omega) | contradiction) | (with_reducible refine Owe.mk ?_ ?_); (first | omega | (unfold most; omega) | decide +kernel | assumption | (simp [most]; done) | (simp [most]; omega)) | (with_reducible intro z hz); first | (replace hz := hz (by omega); subst hz) | subst hz)); try (conv => whnf)
  refine CallB.mk ([.imm (.bool true)]) ([.box 1 [.row 1 2], .row 23 3 2 (List.map idv ([] ++ u.ids))]) (hB _ _ _ _ _ (hI)) ?_
  (repeat ((conv => whnf); first | (with_reducible refine Fork.mk (fun _ => ?_) (fun hc => ?_)); rotate_left; (exfalso; first | omega | (simp [eqC, cellsI, idv, idl] at hc; done) | (simp [eqC, cellsI, idv, idl] at hc; omega) | contradiction) | (with_reducible refine Fork.mk (fun hc => ?_) (fun _ => ?_)); (exfalso; first | omega | (simp [eqC, cellsI, idv, idl] at hc; done) | (simp [eqC, cellsI, idv, idl] at hc; omega) | contradiction) | (with_reducible refine Owe.mk ?_ ?_); (first | omega | (unfold most; omega) | decide +kernel | assumption | (simp [most]; done) | (simp [most]; omega)) | (with_reducible intro z hz); first | (replace hz := hz (by omega); subst hz) | subst hz)); try (conv => whnf)
  refine Imms.mk _ rfl ?_
  exact hfin _ (ILes.refl _)
theorem alike_pc (a b : List Trip) (hb : b.length ≤ 100000000) : PC Tryd.prog envU 35 [.sl 3 (a.map idv), .sl 3 (b.map idv)] [.bool (decide (a = b))] := by
  have h1 : (a.map idv).length = a.length := List.length_map _
  have h2 : (b.map idv).length = b.length := List.length_map _
  by_cases hl : a.length = b.length
  · refine PC.of_vc (T := tb0) eqs_ok tb_ok rfl mixed Tryd.func35 rfl rfl ?_; intro Γ C WK LP fin h0 hW hC hB hR hLP hfin
    (repeat ((conv => whnf); first | (with_reducible refine Fork.mk (fun _ => ?_) (fun hc => ?_)); rotate_left; (exfalso; first | omega | (simp [eqC, cellsI, idv, idl] at hc; done) | (simp [eqC, cellsI, idv, idl] at hc; omega) | contradiction) | (with_reducible refine Fork.mk (fun hc => ?_) (fun _ => ?_)); (exfalso; first | omega | (simp [eqC, cellsI, idv, idl] at hc; done) | (simp [eqC, cellsI, idv, idl] at hc; omega) | contradiction) | (with_reducible refine Owe.mk ?_ ?_); (first | omega | (unfold most; omega) | decide +kernel | assumption | (simp [most]; done) | (simp [most]; omega)) | (with_reducible intro z hz); first | (replace hz := hz (by omega); subst hz) | subst hz)); try (conv => whnf)
    refine hLP _ _ _ Nat (fun k => ⟨[.imm (.sl 3 (a.map idv)), .imm (.sl 3 (b.map idv)), .any, .any, .any, .imm (.int .i64 (k : Nat)), .any, .any, .any, .any, .any, .any, .any, .any, .any, .any, .any, .any, .any, .any, .any, .any, .any, .any, .any, .any], []⟩) (fun k => k ≤ a.length ∧ a.take k = b.take k) (fun k => a.length - k) 0 ⟨Nat.zero_le _, rfl⟩ (Weak.slots 0 (by first | omega | (rw [h0]; exact Nat.le_of_ble_eq_true rfl)) rfl rfl (by first | rfl | (simp only [List.all_cons, List.all_nil, blkBelow, belowL_imm, belowL, belowB, Bool.and_true, Bool.true_and]; first | done | decide) | simp [blkBelow, belowB, belowL, belowL_imm]) (by repeat (first | exact Wk.nil | refine Wk.drop ?_ | refine Wk.eq (by with_reducible rfl) rfl ?_ | refine Wk.eq (congrArg (fun z => PV.imm (IV.int IntKind.i64 z)) (by first | omega | (simp; done) | (simp; omega))) rfl ?_ | refine Wk.eq rfl rfl ?_))) ?_
    rintro k ⟨hk, hab⟩
    by_cases hlt : k < a.length
    · obtain ⟨x, hx⟩ : ∃ x, a[k]? = some x := ⟨a[k], List.getElem?_eq_getElem hlt⟩
      obtain ⟨y, hy⟩ : ∃ y, b[k]? = some y := ⟨b[k], List.getElem?_eq_getElem (by omega)⟩
      (repeat ((conv => whnf); first | (with_reducible refine Fork.mk (fun _ => ?_) (fun hc => ?_)); rotate_left; (exfalso; first | omega | (simp [eqC, cellsI, idv, idl] at hc; done) | (simp [eqC, cellsI, idv, idl] at hc; omega) | contradiction) | (with_reducible refine Fork.mk (fun hc => ?_) (fun _ => ?_)); (exfalso; first | omega | (simp [eqC, cellsI, idv, idl] at hc; done) | (simp [eqC, cellsI, idv, idl] at hc; omega) | contradiction) | (with_reducible refine Owe.mk ?_ ?_); (first | omega | (unfold most; omega) | decide +kernel | assumption | (simp [most]; done) | (simp [most]; omega)) | (with_reducible intro z hz); first | (replace hz := hz (by omega); subst hz) | subst hz)); try (conv => whnf)
      refine Idx.mk k (idv x) _ rfl (by simp [hx]) rfl ?_
      (repeat ((conv => whnf); first | (with_reducible refine Fork.mk (fun _ => ?_) (fun hc => ?_)); rotate_left; (exfalso; first | omega | (simp [eqC, cellsI, idv, idl] at hc; done) | (simp [eqC, cellsI, idv, idl] at hc; omega) | contradiction) | (with_reducible refine Fork.mk (fun hc => ?_) (fun _ => ?_)); (exfalso; first | omega | (simp [eqC, cellsI, idv, idl] at hc; done) | (simp [eqC, cellsI, idv, idl] at hc; omega) | contradiction) | (with_reducible refine Owe.mk ?_ ?_); (first | omega | (unfold most; omega) | decide +kernel | assumption | (simp [most]; done) | (simp [most]; omega)) | (with_reducible intro z hz); first | (replace hz := hz (by omega); subst hz) | subst hz)); try (conv => whnf)
      refine Idx.mk k (idv y) _ rfl (by simp [hy]) rfl ?_
      by_cases hxy : x = y
      · have hi := trip_eq hxy
        (repeat ((conv => whnf); first | (with_reducible refine Fork.mk (fun _ => ?_) (fun hc => ?_)); rotate_left; (exfalso; first | omega | (simp [eqC, cellsI, idv, idl] at hc; done) | (simp [eqC, cellsI, idv, idl] at hc; omega) | contradiction) | (with_reducible refine Fork.mk (fun hc => ?_) (fun _ => ?_)); (exfalso; first | omega | (simp [eqC, cellsI, idv, idl] at hc; done) | (simp [eqC, cellsI, idv, idl] at hc; omega) | contradiction) | (with_reducible refine Owe.mk ?_ ?_); (first | omega | (unfold most; omega) | decide +kernel | assumption | (simp [most]; done) | (simp [most]; omega)) | (with_reducible intro z hz); first | (replace hz := hz (by omega); subst hz) | subst hz)); try (conv => whnf)
        exact ⟨k + 1, ⟨by omega, by rw [List.take_add_one, List.take_add_one, hx, hy, hab, hxy]⟩, by dsimp only; omega, (Weak.slots 0 (by first | omega | (rw [h0]; exact Nat.le_of_ble_eq_true rfl)) rfl rfl (by first | rfl | (simp only [List.all_cons, List.all_nil, blkBelow, belowL_imm, belowL, belowB, Bool.and_true, Bool.true_and]; first | done | decide) | simp [blkBelow, belowB, belowL, belowL_imm]) (by repeat (first | exact Wk.nil | refine Wk.drop ?_ | refine Wk.eq (by with_reducible rfl) rfl ?_ | refine Wk.eq (congrArg (fun z => PV.imm (IV.int IntKind.i64 z)) (by first | omega | (simp; done) | (simp; omega))) rfl ?_ | refine Wk.eq rfl rfl ?_)))⟩
      · have hi := trip_ne hxy
        (repeat ((conv => whnf); first | (with_reducible refine Fork.mk (fun _ => ?_) (fun hc => ?_)); rotate_left; (exfalso; first | omega | (simp [eqC, cellsI, idv, idl] at hc; done) | (simp [eqC, cellsI, idv, idl] at hc; omega) | contradiction) | (with_reducible refine Fork.mk (fun hc => ?_) (fun _ => ?_)); (exfalso; first | omega | (simp [eqC, cellsI, idv, idl] at hc; done) | (simp [eqC, cellsI, idv, idl] at hc; omega) | contradiction) | (with_reducible refine Owe.mk ?_ ?_); (first | omega | (unfold most; omega) | decide +kernel | assumption | (simp [most]; done) | (simp [most]; omega)) | (with_reducible intro z hz); first | (replace hz := hz (by omega); subst hz) | subst hz)); try (conv => whnf)
        refine hfin _ ?_
        have : a ≠ b := fun e => by
          rw [e, hy] at hx
          exact hxy (Option.some.inj hx).symm
        rw [decide_eq_false this]
        exact ILes.refl _
    · (repeat ((conv => whnf); first | (with_reducible refine Fork.mk (fun _ => ?_) (fun hc => ?_)); rotate_left; (exfalso; first | omega | (simp [eqC, cellsI, idv, idl] at hc; done) | (simp [eqC, cellsI, idv, idl] at hc; omega) | contradiction) | (with_reducible refine Fork.mk (fun hc => ?_) (fun _ => ?_)); (exfalso; first | omega | (simp [eqC, cellsI, idv, idl] at hc; done) | (simp [eqC, cellsI, idv, idl] at hc; omega) | contradiction) | (with_reducible refine Owe.mk ?_ ?_); (first | omega | (unfold most; omega) | decide +kernel | assumption | (simp [most]; done) | (simp [most]; omega)) | (with_reducible intro z hz); first | (replace hz := hz (by omega); subst hz) | subst hz)); try (conv => whnf)
      obtain rfl : k = a.length := by omega
      rw [List.take_length, hl, List.take_length] at hab
      refine hfin _ ?_
      rw [decide_eq_true hab]
      exact ILes.refl _
  · refine PC.of_vc (T := tb0) eqs_ok tb_ok rfl mixed Tryd.func35 rfl rfl ?_; intro Γ C WK LP fin h0 hW hC hB hR hLP hfin
    (repeat ((conv => whnf); first | (with_reducible refine Fork.mk (fun _ => ?_) (fun hc => ?_)); rotate_left; (exfalso; first | omega | (simp [eqC, cellsI, idv, idl] at hc; done) | (simp [eqC, cellsI, idv, idl] at hc; omega) | contradiction) | (with_reducible refine Fork.mk (fun hc => ?_) (fun _ => ?_)); (exfalso; first | omega | (simp [eqC, cellsI, idv, idl] at hc; done) | (simp [eqC, cellsI, idv, idl] at hc; omega) | contradiction) | (with_reducible refine Owe.mk ?_ ?_); (first | omega | (unfold most; omega) | decide +kernel | assumption | (simp [most]; done) | (simp [most]; omega)) | (with_reducible intro z hz); first | (replace hz := hz (by omega); subst hz) | subst hz)); try (conv => whnf)
    refine hfin _ ?_
    have : a ≠ b := fun e => hl (by rw [e])
    rw [decide_eq_false this]
    exact ILes.refl _
theorem same_pc (u u2 : Ut) (h : okU u) (h2 : okU u2) : PC Tryd.prog envU 38 [uv u, uv u2] [.bool (decide (u = u2))] :=
  lift_bool (enters_of Tryd.func38 rfl rfl) fun Q w vs hQ hR hvs => by
    unfold RepIs at hvs
    obtain ⟨v, r, rfl, h3, h4⟩ := hvs
    unfold RepIs at h4
    obtain ⟨v2, r2, rfl, h5, h6⟩ := h4
    unfold RepIs at h6
    subst h6
    exact same_any u.count u u2 v v2 w (Nat.le_refl _) (utv_to hQ h h3) (utv_to hQ h2 h5)
theorem small_of {u : Ut} (h : Small 60 u) : small u ∧ u.count ≤ 60 ∧ u.depth ≤ 20 := by
  obtain ⟨h1, h2, h3⟩ := h
  refine ⟨fun x hx => ?_, h1, h2⟩
  have := List.all_eq_true.1 h3 x hx
  simp only [fewB, shortB, Bool.and_eq_true, decide_eq_true_eq] at this
  omega
theorem find_ok {t : Trip} {u : Ut} (h : okU u) : okU (findU t u) := by
  unfold findU
  split
  · rename_i x r hc
    exact fun y hy => h y (all_trans u.count u x (Nat.le_refl _) (lin_mem hc).2 y hy)
  · intro y hy
    unfold zeroU at hy
    rw [all_mk] at hy
    simp only [Ut.alls, List.mem_singleton] at hy
    subst hy
    refine ⟨⟨?_, ?_, ?_⟩, ?_⟩ <;> (unfold inI; first | omega | (simp only [Trip.zero, Ut.id, Ut.kind]; omega))
theorem lookup_pc (u : Ut) (hok : okU u) (t : Trip) : PC Tryd.prog envU 4 [uv u, idv t] [.bool true] := by
  have hF := few_pc envU rfl u 60 hok (by omega) (by omega)
  have hue := uv_eq u
  rw [hue] at hF ⊢
  rw [show idv t = .agg [.int .i64 t.x, .int .i64 t.y, .int .i64 t.z] from rfl]
  by_cases hfew : fewU u 60 = true
  · rw [hfew] at hF
    obtain ⟨hs, hc, hd⟩ := small_of (few_small (m := 60) hfew)
    have huf := uv_eq (findU t u)
    have h1 := find_pc t u (by omega) hs
    have h2 := rfind_pc t u.count u (Nat.le_refl _) (by omega)
    have h3 := parent_pc t u (by omega)
    have h4 := rparent_pc t u.count u (Nat.le_refl _) (by omega)
    have h5 := count_pc u.count u (Nat.le_refl _) (by omega)
    have h6 := rcount_pc u.count u (Nat.le_refl _) (by omega)
    have h7 := depth_pc envU rfl u.count u (Nat.le_refl _) (by omega) (by omega)
    have h8 := rdepth_pc u.count u (Nat.le_refl _) (by omega) (by omega)
    have h9 := ids_pc u (by omega)
    have h10 := (all_pcr u.count u (Nat.le_refl _) (by omega)).pc
    have h11 := alike_pc u.ids u.ids (by rw [uids_len]; omega)
    have h12 := same_pc (findU t u) (findU t u) (find_ok hok) (find_ok hok)
    have h13 := anc_pc t u (by omega)
    have h14 := (above_pcr t u.count u (Nat.le_refl _) (by omega)).pc
    have h15 := alike_pc (ancL t u) (ancL t u) (by have := anc_len t u; omega)
    rw [decide_eq_true rfl] at h11 h12 h15
    rw [hue] at h1 h2 h3 h4 h5 h6 h7 h8 h9 h10 h13 h14
    rw [huf] at h1 h2 h12
    rw [show idv t = .agg [.int .i64 t.x, .int .i64 t.y, .int .i64 t.z] from rfl] at h1 h2 h3 h4 h13 h14
    rw [show idv (parV t u).1 = .agg [.int .i64 (parV t u).1.x, .int .i64 (parV t u).1.y, .int .i64 (parV t u).1.z] from rfl] at h3 h4
    refine PC.of_vc (T := tb0) eqs_ok tb_ok rfl mixed Tryd.func4 rfl rfl ?_; intro Γ C WK LP fin h0 hW hC hB hR hLP hfin
    (repeat ((conv => whnf); first | (with_reducible refine Fork.mk (fun _ => ?_) (fun hc => ?_)); rotate_left; (exfalso; first | omega | (simp [eqC, cellsI, idv, idl] at hc; done) | (simp [eqC, cellsI, idv, idl] at hc; omega) | contradiction) | (with_reducible refine Fork.mk (fun hc => ?_) (fun _ => ?_)); (exfalso; first | omega | (simp [eqC, cellsI, idv, idl] at hc; done) | (simp [eqC, cellsI, idv, idl] at hc; omega) | contradiction) | (with_reducible refine Owe.mk ?_ ?_); (first | omega | (unfold most; omega) | decide +kernel | assumption | (simp [most]; done) | (simp [most]; omega)) | (with_reducible intro z hz); first | (replace hz := hz (by omega); subst hz) | subst hz)); try (conv => whnf)
    refine CallV.mk _ (hC _ _ _ (PCw.of (awake_pc))) (fun js hjs => ?_); subst hjs
    (repeat ((conv => whnf); first | (with_reducible refine Fork.mk (fun _ => ?_) (fun hc => ?_)); rotate_left; (exfalso; first | omega | (simp [eqC, cellsI, idv, idl] at hc; done) | (simp [eqC, cellsI, idv, idl] at hc; omega) | contradiction) | (with_reducible refine Fork.mk (fun hc => ?_) (fun _ => ?_)); (exfalso; first | omega | (simp [eqC, cellsI, idv, idl] at hc; done) | (simp [eqC, cellsI, idv, idl] at hc; omega) | contradiction) | (with_reducible refine Owe.mk ?_ ?_); (first | omega | (unfold most; omega) | decide +kernel | assumption | (simp [most]; done) | (simp [most]; omega)) | (with_reducible intro z hz); first | (replace hz := hz (by omega); subst hz) | subst hz)); try (conv => whnf)
    refine CallV.mk _ (hC _ _ _ (PCw.of (hF))) (fun js hjs => ?_); subst hjs
    (repeat ((conv => whnf); first | (with_reducible refine Fork.mk (fun _ => ?_) (fun hc => ?_)); rotate_left; (exfalso; first | omega | (simp [eqC, cellsI, idv, idl] at hc; done) | (simp [eqC, cellsI, idv, idl] at hc; omega) | contradiction) | (with_reducible refine Fork.mk (fun hc => ?_) (fun _ => ?_)); (exfalso; first | omega | (simp [eqC, cellsI, idv, idl] at hc; done) | (simp [eqC, cellsI, idv, idl] at hc; omega) | contradiction) | (with_reducible refine Owe.mk ?_ ?_); (first | omega | (unfold most; omega) | decide +kernel | assumption | (simp [most]; done) | (simp [most]; omega)) | (with_reducible intro z hz); first | (replace hz := hz (by omega); subst hz) | subst hz)); try (conv => whnf)
    refine CallV.mk _ (hC _ _ _ (PCw.of (h1))) (fun js hjs => ?_); subst hjs
    (repeat ((conv => whnf); first | (with_reducible refine Fork.mk (fun _ => ?_) (fun hc => ?_)); rotate_left; (exfalso; first | omega | (simp [eqC, cellsI, idv, idl] at hc; done) | (simp [eqC, cellsI, idv, idl] at hc; omega) | contradiction) | (with_reducible refine Fork.mk (fun hc => ?_) (fun _ => ?_)); (exfalso; first | omega | (simp [eqC, cellsI, idv, idl] at hc; done) | (simp [eqC, cellsI, idv, idl] at hc; omega) | contradiction) | (with_reducible refine Owe.mk ?_ ?_); (first | omega | (unfold most; omega) | decide +kernel | assumption | (simp [most]; done) | (simp [most]; omega)) | (with_reducible intro z hz); first | (replace hz := hz (by omega); subst hz) | subst hz)); try (conv => whnf)
    refine CallV.mk _ (hC _ _ _ (PCw.of (h2))) (fun js hjs => ?_); subst hjs
    (repeat ((conv => whnf); first | (with_reducible refine Fork.mk (fun _ => ?_) (fun hc => ?_)); rotate_left; (exfalso; first | omega | (simp [eqC, cellsI, idv, idl] at hc; done) | (simp [eqC, cellsI, idv, idl] at hc; omega) | contradiction) | (with_reducible refine Fork.mk (fun hc => ?_) (fun _ => ?_)); (exfalso; first | omega | (simp [eqC, cellsI, idv, idl] at hc; done) | (simp [eqC, cellsI, idv, idl] at hc; omega) | contradiction) | (with_reducible refine Owe.mk ?_ ?_); (first | omega | (unfold most; omega) | decide +kernel | assumption | (simp [most]; done) | (simp [most]; omega)) | (with_reducible intro z hz); first | (replace hz := hz (by omega); subst hz) | subst hz)); try (conv => whnf)
    refine CallV.mk _ (hC _ _ _ (PCw.of (h3))) (fun js hjs => ?_); subst hjs
    (repeat ((conv => whnf); first | (with_reducible refine Fork.mk (fun _ => ?_) (fun hc => ?_)); rotate_left; (exfalso; first | omega | (simp [eqC, cellsI, idv, idl] at hc; done) | (simp [eqC, cellsI, idv, idl] at hc; omega) | contradiction) | (with_reducible refine Fork.mk (fun hc => ?_) (fun _ => ?_)); (exfalso; first | omega | (simp [eqC, cellsI, idv, idl] at hc; done) | (simp [eqC, cellsI, idv, idl] at hc; omega) | contradiction) | (with_reducible refine Owe.mk ?_ ?_); (first | omega | (unfold most; omega) | decide +kernel | assumption | (simp [most]; done) | (simp [most]; omega)) | (with_reducible intro z hz); first | (replace hz := hz (by omega); subst hz) | subst hz)); try (conv => whnf)
    refine CallV.mk _ (hC _ _ _ (PCw.of (h4))) (fun js hjs => ?_); subst hjs
    (repeat ((conv => whnf); first | (with_reducible refine Fork.mk (fun _ => ?_) (fun hc => ?_)); rotate_left; (exfalso; first | omega | (simp [eqC, cellsI, idv, idl] at hc; done) | (simp [eqC, cellsI, idv, idl] at hc; omega) | contradiction) | (with_reducible refine Fork.mk (fun hc => ?_) (fun _ => ?_)); (exfalso; first | omega | (simp [eqC, cellsI, idv, idl] at hc; done) | (simp [eqC, cellsI, idv, idl] at hc; omega) | contradiction) | (with_reducible refine Owe.mk ?_ ?_); (first | omega | (unfold most; omega) | decide +kernel | assumption | (simp [most]; done) | (simp [most]; omega)) | (with_reducible intro z hz); first | (replace hz := hz (by omega); subst hz) | subst hz)); try (conv => whnf)
    refine CallV.mk _ (hC _ _ _ (PCw.of (h5))) (fun js hjs => ?_); subst hjs
    (repeat ((conv => whnf); first | (with_reducible refine Fork.mk (fun _ => ?_) (fun hc => ?_)); rotate_left; (exfalso; first | omega | (simp [eqC, cellsI, idv, idl] at hc; done) | (simp [eqC, cellsI, idv, idl] at hc; omega) | contradiction) | (with_reducible refine Fork.mk (fun hc => ?_) (fun _ => ?_)); (exfalso; first | omega | (simp [eqC, cellsI, idv, idl] at hc; done) | (simp [eqC, cellsI, idv, idl] at hc; omega) | contradiction) | (with_reducible refine Owe.mk ?_ ?_); (first | omega | (unfold most; omega) | decide +kernel | assumption | (simp [most]; done) | (simp [most]; omega)) | (with_reducible intro z hz); first | (replace hz := hz (by omega); subst hz) | subst hz)); try (conv => whnf)
    refine CallV.mk _ (hC _ _ _ (PCw.of (h6))) (fun js hjs => ?_); subst hjs
    (repeat ((conv => whnf); first | (with_reducible refine Fork.mk (fun _ => ?_) (fun hc => ?_)); rotate_left; (exfalso; first | omega | (simp [eqC, cellsI, idv, idl] at hc; done) | (simp [eqC, cellsI, idv, idl] at hc; omega) | contradiction) | (with_reducible refine Fork.mk (fun hc => ?_) (fun _ => ?_)); (exfalso; first | omega | (simp [eqC, cellsI, idv, idl] at hc; done) | (simp [eqC, cellsI, idv, idl] at hc; omega) | contradiction) | (with_reducible refine Owe.mk ?_ ?_); (first | omega | (unfold most; omega) | decide +kernel | assumption | (simp [most]; done) | (simp [most]; omega)) | (with_reducible intro z hz); first | (replace hz := hz (by omega); subst hz) | subst hz)); try (conv => whnf)
    refine CallV.mk _ (hC _ _ _ (PCw.of (h7))) (fun js hjs => ?_); subst hjs
    (repeat ((conv => whnf); first | (with_reducible refine Fork.mk (fun _ => ?_) (fun hc => ?_)); rotate_left; (exfalso; first | omega | (simp [eqC, cellsI, idv, idl] at hc; done) | (simp [eqC, cellsI, idv, idl] at hc; omega) | contradiction) | (with_reducible refine Fork.mk (fun hc => ?_) (fun _ => ?_)); (exfalso; first | omega | (simp [eqC, cellsI, idv, idl] at hc; done) | (simp [eqC, cellsI, idv, idl] at hc; omega) | contradiction) | (with_reducible refine Owe.mk ?_ ?_); (first | omega | (unfold most; omega) | decide +kernel | assumption | (simp [most]; done) | (simp [most]; omega)) | (with_reducible intro z hz); first | (replace hz := hz (by omega); subst hz) | subst hz)); try (conv => whnf)
    refine CallV.mk _ (hC _ _ _ (PCw.of (h8))) (fun js hjs => ?_); subst hjs
    (repeat ((conv => whnf); first | (with_reducible refine Fork.mk (fun _ => ?_) (fun hc => ?_)); rotate_left; (exfalso; first | omega | (simp [eqC, cellsI, idv, idl] at hc; done) | (simp [eqC, cellsI, idv, idl] at hc; omega) | contradiction) | (with_reducible refine Fork.mk (fun hc => ?_) (fun _ => ?_)); (exfalso; first | omega | (simp [eqC, cellsI, idv, idl] at hc; done) | (simp [eqC, cellsI, idv, idl] at hc; omega) | contradiction) | (with_reducible refine Owe.mk ?_ ?_); (first | omega | (unfold most; omega) | decide +kernel | assumption | (simp [most]; done) | (simp [most]; omega)) | (with_reducible intro z hz); first | (replace hz := hz (by omega); subst hz) | subst hz)); try (conv => whnf)
    refine CallV.mk _ (hC _ _ _ (PCw.of (h9))) (fun js hjs => ?_); subst hjs
    (repeat ((conv => whnf); first | (with_reducible refine Fork.mk (fun _ => ?_) (fun hc => ?_)); rotate_left; (exfalso; first | omega | (simp [eqC, cellsI, idv, idl] at hc; done) | (simp [eqC, cellsI, idv, idl] at hc; omega) | contradiction) | (with_reducible refine Fork.mk (fun hc => ?_) (fun _ => ?_)); (exfalso; first | omega | (simp [eqC, cellsI, idv, idl] at hc; done) | (simp [eqC, cellsI, idv, idl] at hc; omega) | contradiction) | (with_reducible refine Owe.mk ?_ ?_); (first | omega | (unfold most; omega) | decide +kernel | assumption | (simp [most]; done) | (simp [most]; omega)) | (with_reducible intro z hz); first | (replace hz := hz (by omega); subst hz) | subst hz)); try (conv => whnf)
    refine CallV.mk _ (hC _ _ _ (PCw.of (h10))) (fun js hjs => ?_); subst hjs
    (repeat ((conv => whnf); first | (with_reducible refine Fork.mk (fun _ => ?_) (fun hc => ?_)); rotate_left; (exfalso; first | omega | (simp [eqC, cellsI, idv, idl] at hc; done) | (simp [eqC, cellsI, idv, idl] at hc; omega) | contradiction) | (with_reducible refine Fork.mk (fun hc => ?_) (fun _ => ?_)); (exfalso; first | omega | (simp [eqC, cellsI, idv, idl] at hc; done) | (simp [eqC, cellsI, idv, idl] at hc; omega) | contradiction) | (with_reducible refine Owe.mk ?_ ?_); (first | omega | (unfold most; omega) | decide +kernel | assumption | (simp [most]; done) | (simp [most]; omega)) | (with_reducible intro z hz); first | (replace hz := hz (by omega); subst hz) | subst hz)); try (conv => whnf)
    refine CallV.mk _ (hC _ _ _ (PCw.of (h11))) (fun js hjs => ?_); subst hjs
    (repeat ((conv => whnf); first | (with_reducible refine Fork.mk (fun _ => ?_) (fun hc => ?_)); rotate_left; (exfalso; first | omega | (simp [eqC, cellsI, idv, idl] at hc; done) | (simp [eqC, cellsI, idv, idl] at hc; omega) | contradiction) | (with_reducible refine Fork.mk (fun hc => ?_) (fun _ => ?_)); (exfalso; first | omega | (simp [eqC, cellsI, idv, idl] at hc; done) | (simp [eqC, cellsI, idv, idl] at hc; omega) | contradiction) | (with_reducible refine Owe.mk ?_ ?_); (first | omega | (unfold most; omega) | decide +kernel | assumption | (simp [most]; done) | (simp [most]; omega)) | (with_reducible intro z hz); first | (replace hz := hz (by omega); subst hz) | subst hz)); try (conv => whnf)
    refine CallV.mk _ (hC _ _ _ (PCw.of (h12))) (fun js hjs => ?_); subst hjs
    (repeat ((conv => whnf); first | (with_reducible refine Fork.mk (fun _ => ?_) (fun hc => ?_)); rotate_left; (exfalso; first | omega | (simp [eqC, cellsI, idv, idl] at hc; done) | (simp [eqC, cellsI, idv, idl] at hc; omega) | contradiction) | (with_reducible refine Fork.mk (fun hc => ?_) (fun _ => ?_)); (exfalso; first | omega | (simp [eqC, cellsI, idv, idl] at hc; done) | (simp [eqC, cellsI, idv, idl] at hc; omega) | contradiction) | (with_reducible refine Owe.mk ?_ ?_); (first | omega | (unfold most; omega) | decide +kernel | assumption | (simp [most]; done) | (simp [most]; omega)) | (with_reducible intro z hz); first | (replace hz := hz (by omega); subst hz) | subst hz)); try (conv => whnf)
    with_reducible refine Fork.mk (fun _ => ?_) (fun hc => (by exfalso; simp [eqC] at hc))
    (repeat ((conv => whnf); first | (with_reducible refine Fork.mk (fun _ => ?_) (fun hc => ?_)); rotate_left; (exfalso; first | omega | (simp [eqC, cellsI, idv, idl] at hc; done) | (simp [eqC, cellsI, idv, idl] at hc; omega) | contradiction) | (with_reducible refine Fork.mk (fun hc => ?_) (fun _ => ?_)); (exfalso; first | omega | (simp [eqC, cellsI, idv, idl] at hc; done) | (simp [eqC, cellsI, idv, idl] at hc; omega) | contradiction) | (with_reducible refine Owe.mk ?_ ?_); (first | omega | (unfold most; omega) | decide +kernel | assumption | (simp [most]; done) | (simp [most]; omega)) | (with_reducible intro z hz); first | (replace hz := hz (by omega); subst hz) | subst hz)); try (conv => whnf)
    refine CallV.mk _ (hC _ _ _ (PCw.of (h13))) (fun js hjs => ?_); subst hjs
    (repeat ((conv => whnf); first | (with_reducible refine Fork.mk (fun _ => ?_) (fun hc => ?_)); rotate_left; (exfalso; first | omega | (simp [eqC, cellsI, idv, idl] at hc; done) | (simp [eqC, cellsI, idv, idl] at hc; omega) | contradiction) | (with_reducible refine Fork.mk (fun hc => ?_) (fun _ => ?_)); (exfalso; first | omega | (simp [eqC, cellsI, idv, idl] at hc; done) | (simp [eqC, cellsI, idv, idl] at hc; omega) | contradiction) | (with_reducible refine Owe.mk ?_ ?_); (first | omega | (unfold most; omega) | decide +kernel | assumption | (simp [most]; done) | (simp [most]; omega)) | (with_reducible intro z hz); first | (replace hz := hz (by omega); subst hz) | subst hz)); try (conv => whnf)
    refine CallV.mk _ (hC _ _ _ (PCw.of (h14))) (fun js hjs => ?_); subst hjs
    (repeat ((conv => whnf); first | (with_reducible refine Fork.mk (fun _ => ?_) (fun hc => ?_)); rotate_left; (exfalso; first | omega | (simp [eqC, cellsI, idv, idl] at hc; done) | (simp [eqC, cellsI, idv, idl] at hc; omega) | contradiction) | (with_reducible refine Fork.mk (fun hc => ?_) (fun _ => ?_)); (exfalso; first | omega | (simp [eqC, cellsI, idv, idl] at hc; done) | (simp [eqC, cellsI, idv, idl] at hc; omega) | contradiction) | (with_reducible refine Owe.mk ?_ ?_); (first | omega | (unfold most; omega) | decide +kernel | assumption | (simp [most]; done) | (simp [most]; omega)) | (with_reducible intro z hz); first | (replace hz := hz (by omega); subst hz) | subst hz)); try (conv => whnf)
    refine CallV.mk _ (hC _ _ _ (PCw.of (h15))) (fun js hjs => ?_); subst hjs
    (repeat ((conv => whnf); first | (with_reducible refine Fork.mk (fun _ => ?_) (fun hc => ?_)); rotate_left; (exfalso; first | omega | (simp [eqC, cellsI, idv, idl] at hc; done) | (simp [eqC, cellsI, idv, idl] at hc; omega) | contradiction) | (with_reducible refine Fork.mk (fun hc => ?_) (fun _ => ?_)); (exfalso; first | omega | (simp [eqC, cellsI, idv, idl] at hc; done) | (simp [eqC, cellsI, idv, idl] at hc; omega) | contradiction) | (with_reducible refine Owe.mk ?_ ?_); (first | omega | (unfold most; omega) | decide +kernel | assumption | (simp [most]; done) | (simp [most]; omega)) | (with_reducible intro z hz); first | (replace hz := hz (by omega); subst hz) | subst hz)); try (conv => whnf)
    exact hfin _ (ILes.refl _)
  · have hfew : fewU u 60 = false := by simpa using hfew
    rw [hfew] at hF
    refine PC.of_vc (T := tb0) eqs_ok tb_ok rfl mixed Tryd.func4 rfl rfl ?_; intro Γ C WK LP fin h0 hW hC hB hR hLP hfin
    (repeat ((conv => whnf); first | (with_reducible refine Fork.mk (fun _ => ?_) (fun hc => ?_)); rotate_left; (exfalso; first | omega | (simp [eqC, cellsI, idv, idl] at hc; done) | (simp [eqC, cellsI, idv, idl] at hc; omega) | contradiction) | (with_reducible refine Fork.mk (fun hc => ?_) (fun _ => ?_)); (exfalso; first | omega | (simp [eqC, cellsI, idv, idl] at hc; done) | (simp [eqC, cellsI, idv, idl] at hc; omega) | contradiction) | (with_reducible refine Owe.mk ?_ ?_); (first | omega | (unfold most; omega) | decide +kernel | assumption | (simp [most]; done) | (simp [most]; omega)) | (with_reducible intro z hz); first | (replace hz := hz (by omega); subst hz) | subst hz)); try (conv => whnf)
    refine CallV.mk _ (hC _ _ _ (PCw.of (awake_pc))) (fun js hjs => ?_); subst hjs
    (repeat ((conv => whnf); first | (with_reducible refine Fork.mk (fun _ => ?_) (fun hc => ?_)); rotate_left; (exfalso; first | omega | (simp [eqC, cellsI, idv, idl] at hc; done) | (simp [eqC, cellsI, idv, idl] at hc; omega) | contradiction) | (with_reducible refine Fork.mk (fun hc => ?_) (fun _ => ?_)); (exfalso; first | omega | (simp [eqC, cellsI, idv, idl] at hc; done) | (simp [eqC, cellsI, idv, idl] at hc; omega) | contradiction) | (with_reducible refine Owe.mk ?_ ?_); (first | omega | (unfold most; omega) | decide +kernel | assumption | (simp [most]; done) | (simp [most]; omega)) | (with_reducible intro z hz); first | (replace hz := hz (by omega); subst hz) | subst hz)); try (conv => whnf)
    refine CallV.mk _ (hC _ _ _ (PCw.of (hF))) (fun js hjs => ?_); subst hjs
    (repeat ((conv => whnf); first | (with_reducible refine Fork.mk (fun _ => ?_) (fun hc => ?_)); rotate_left; (exfalso; first | omega | (simp [eqC, cellsI, idv, idl] at hc; done) | (simp [eqC, cellsI, idv, idl] at hc; omega) | contradiction) | (with_reducible refine Fork.mk (fun hc => ?_) (fun _ => ?_)); (exfalso; first | omega | (simp [eqC, cellsI, idv, idl] at hc; done) | (simp [eqC, cellsI, idv, idl] at hc; omega) | contradiction) | (with_reducible refine Owe.mk ?_ ?_); (first | omega | (unfold most; omega) | decide +kernel | assumption | (simp [most]; done) | (simp [most]; omega)) | (with_reducible intro z hz); first | (replace hz := hz (by omega); subst hz) | subst hz)); try (conv => whnf)
    exact hfin _ (ILes.refl _)
end Go.Proofs.YtcacnelhppakoaaDoor.Pu
namespace Go.Proofs.YtcacnelhppakoaaDoor
open Go Go.Pv Go.RowKit
theorem ut_ok' {w : World} {u : Ut} {v : Value} (hV : UtV w u v) : Pu.okU u := by
  obtain ⟨vs, rfl, h⟩ := hV
  exact Pu.utc_ok u vs h
theorem lawLookup {w : World} (u : Ut) (v : Value) (hV : UtV w u v) (t : Trip) (_ht : t.ok) (hTab : Tab w ∧ TabN w ∧ TabK w) :
    Calls Tryd.prog 4 #[v, .agg #[.int .i64 t.x, .int .i64 t.y, .int .i64 t.z]] w fun e w' => e = .returned (.bool true) ∧ Below w.heap.size w w' := by
  have h := (Pu.lookup_pc u (ut_ok' hV) t).2 (fun b => b < w.heap.size) w [v, .agg #[.int .i64 t.x, .int .i64 t.y, .int .i64 t.z]] (fun _ h => h) (fun _ _ h => by cases h) hTab ?_
  · refine h.mono ?_
    rintro e w' ⟨x, Q', rfl, hb, _, _, hr⟩
    refine ⟨?_, hb⟩
    unfold RepRes RepI at hr
    rw [hr]
  · obtain ⟨vs, rfl, hC⟩ := hV
    refine ⟨_, _, rfl, Pu.of_utc (fun _ h => h) u vs hC, _, _, rfl, ?_, rfl⟩
    unfold Pu.idv Pu.idl
    rw [RepI_agg]
    refine ⟨_, rfl, ?_⟩
    simp only [RepC, RepI]
    exact ⟨_, _, rfl, rfl, rfl, _, _, rfl, rfl, rfl, _, _, rfl, rfl, rfl, rfl⟩
end Go.Proofs.YtcacnelhppakoaaDoor
