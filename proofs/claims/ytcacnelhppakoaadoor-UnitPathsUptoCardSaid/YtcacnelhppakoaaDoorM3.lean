/-
  The way up in a tree of distinct IDs: mathematics for UnitPaths. UnitPaths, as a call of plain values.
-/
import Derived.Test.YtcacnelhppakoaaDoorLin
import Derived.Test.YtcacnelhppakoaaDoorVal2
import Derived.Test.YtcacnelhppakoaaDoorIdt
import Derived.Test.YtcacnelhppakoaaDoorVv
import Derived.Test.YtcacnelhppakoaaDoorEq
namespace Go.Proofs.YtcacnelhppakoaaDoor.Pu
open Go Lab Lcs Go.Proofs.YtcacnelhppakoaaDoor
theorem map_inj_of_nodup {α β : Type} {f : α → β} : ∀ {l : List α}, (l.map f).Nodup → ∀ {a b : α}, a ∈ l → b ∈ l → f a = f b → a = b
  | [], _, _, _, ha, _, _ => by cases ha
  | x :: l, h, a, b, ha, hb, e => by
    rw [List.map_cons, List.nodup_cons] at h
    rcases List.mem_cons.1 ha with ea | ha' <;> rcases List.mem_cons.1 hb with eb | hb'
    · rw [ea, eb]
    · rw [← ea] at h
      exact absurd (by rw [e]; exact List.mem_map_of_mem hb') h.1
    · rw [← eb] at h
      exact absurd (by rw [← e]; exact List.mem_map_of_mem ha') h.1
    · exact map_inj_of_nodup h.2 ha' hb' e
mutual
theorem lin_nil {t : Trip} : ∀ {u : Ut}, linL t u = [] → ∀ y ∈ u.all, y.id ≠ t
  | .mk i k l h w kids, hn, y, hy => by
    rw [linL] at hn
    rw [all_mk] at hy
    by_cases hi : i = t
    · rw [if_pos hi] at hn; cases hn
    · rw [if_neg hi] at hn
      by_cases he : (linK t kids).isEmpty = true
      · rcases List.mem_cons.1 hy with rfl | hy
        · exact hi
        · exact linK_nil (by simpa using he) y hy
      · rw [if_neg he] at hn
        simp at hn
theorem linK_nil {t : Trip} : ∀ {l : List Ut}, linK t l = [] → ∀ y ∈ Ut.alls l, y.id ≠ t
  | [], _, y, hy => by simp [Ut.alls] at hy
  | u :: r, hn, y, hy => by
    rw [linK] at hn
    simp only [Ut.alls, List.mem_append] at hy
    by_cases he : (linL t u).isEmpty = true
    · rw [if_pos he] at hn
      rcases hy with hy | hy
      · exact lin_nil (by simpa using he) y hy
      · exact linK_nil hn y hy
    · rw [if_neg he] at hn
      rw [hn] at he
      exact absurd rfl he
end
theorem linK_none_of {t : Trip} {l : List Ut} (h : ∀ y ∈ Ut.alls l, y.id ≠ t) : linK t l = [] := by
  induction l with
  | nil => rfl
  | cons u r ih =>
    have h1 : linL t u = [] := by
      cases hc : linL t u with
      | nil => rfl
      | cons x s =>
        obtain ⟨h2, h3⟩ := lin_head u.count (Nat.le_refl _) x s hc
        exact absurd h2 (h x (by simp only [Ut.alls]; exact List.mem_append_left _ h3))
    rw [linK, h1]
    exact ih fun y hy => h y (by simp only [Ut.alls]; exact List.mem_append_right _ hy)
theorem linK_at {t : Trip} : ∀ {l : List Ut}, linK t l ≠ [] → ∃ k x, l[k]? = some x ∧ linK t (l.take k) = [] ∧ linL t x ≠ [] ∧ linK t l = linL t x
  | [], h => absurd rfl h
  | u :: r, h => by
    rw [linK] at h ⊢
    by_cases he : (linL t u).isEmpty = true
    · rw [if_pos he] at h ⊢
      obtain ⟨k, x, h1, h2, h3, h4⟩ := linK_at h
      refine ⟨k + 1, x, by simpa using h1, ?_, h3, h4⟩
      rw [List.take_succ_cons, linK, if_pos he]
      exact h2
    · rw [if_neg he]
      exact ⟨0, u, rfl, rfl, by simpa using he, rfl⟩
theorem lin_last {t : Trip} {u : Ut} (h : linL t u ≠ []) : (linL t u).getLast? = some u := by
  by_cases hi : u.id = t
  · rw [lin_self hi]; rfl
  · by_cases hk : linK t u.kids = []
    · exact absurd (lin_none hi hk) h
    · rw [lin_some hi hk]
      simp
mutual
theorem lin_depth (t : Trip) : ∀ u : Ut, (linL t u).length ≤ u.depth + 1
  | .mk i k l h w kids => by
    rw [linL, depth_mk]
    split
    · simp
    · split
      · simp
      · have := linK_depth t kids
        rw [List.length_append, List.length_singleton]
        omega
theorem linK_depth (t : Trip) : ∀ l : List Ut, (linK t l).length ≤ Ut.depths l
  | [] => by simp [linK]
  | u :: r => by
    rw [linK]
    have h1 := lin_depth t u
    have h2 := linK_depth t r
    simp only [Ut.depths]
    split <;> omega
end
theorem all_kids (u : Ut) : u.all = u :: Ut.alls u.kids := by cases u; exact all_mk _ _ _ _ _ _
theorem alls_split {l : List Ut} {k : Nat} {x : Ut} (h : l[k]? = some x) : Ut.alls l = Ut.alls (l.take k) ++ (x.all ++ Ut.alls (l.drop (k + 1))) := by
  have h1 : l = l.take k ++ (x :: l.drop (k + 1)) := by
    obtain ⟨hk, he⟩ := List.getElem?_eq_some_iff.1 h
    rw [← he, List.getElem_cons_drop, List.take_append_drop]
  conv => lhs; rw [h1, alls_app]
  simp only [Ut.alls]
/-- The way up from the second is the way up from the first, without the first. -/
theorem lin_up {t : Trip} : ∀ (n : Nat) (u : Ut), u.count ≤ n → (u.all.map Ut.id).Nodup → ∀ x p r, linL t u = x :: p :: r → linL p.id u = p :: r
  | 0, u, hn, _, _, _, _, _ => by have := count_pos u; omega
  | n + 1, u, hn, hd, x, p, r, h => by
    by_cases hi : u.id = t
    · rw [lin_self hi] at h; simp at h
    by_cases hk : linK t u.kids = []
    · rw [lin_none hi hk] at h; cases h
    obtain ⟨k, y, hy, hno, hne, he⟩ := linK_at hk
    rw [lin_some hi hk, he] at h
    have hyc : y.count ≤ n := by
      cases u with
      | mk id kind label head words kids => exact Nat.le_of_lt_succ (Nat.lt_of_lt_of_le (kid_lt (kids := kids) hy) hn)
    have hsp := alls_split hy
    have hall := all_kids u
    rw [hall, hsp] at hd
    simp only [List.map_cons, List.map_append, List.nodup_cons, List.nodup_append] at hd
    obtain ⟨hd1, hd2, ⟨hd3, hd4, hd5⟩, hd6⟩ := hd
    cases hc : linL t y with
    | nil => exact absurd hc hne
    | cons a s =>
      rw [hc] at h
      cases s with
      | nil =>
        simp only [List.cons_append, List.nil_append, List.cons.injEq] at h
        obtain ⟨_, rfl, rfl⟩ := h
        exact lin_self rfl
      | cons b s =>
        simp only [List.cons_append, List.cons.injEq] at h
        obtain ⟨rfl, rfl, rfl⟩ := h
        have hI := lin_up n y hyc hd3 a b s hc
        have hbm := (lin_head y.count (Nat.le_refl _) b s hI).2
        have hbid : b.id ∈ y.all.map Ut.id := List.mem_map_of_mem hbm
        have hub : u.id ≠ b.id := fun e => hd1 (by
          rw [e]
          exact List.mem_append_right _ (List.mem_append_left _ hbid))
        have hnb : linK b.id (u.kids.take k) = [] := linK_none_of fun z hz e => hd6 z.id (List.mem_map_of_mem hz) b.id (List.mem_append_left _ hbid) e
        have hhit := linK_hit hy hnb (by rw [hI]; simp)
        rw [lin_some hub (by rw [hhit, hI]; simp), hhit, hI]
        rfl
end Go.Proofs.YtcacnelhppakoaaDoor.Pu

namespace Go.Proofs.YtcacnelhppakoaaDoor.Pu
open Go Go.Pv
set_option linter.unusedSimpArgs false
open Lab Lcs Go.Proofs.YtcacnelhppakoaaDoor
set_option maxRecDepth 100000
set_option maxHeartbeats 16000000
theorem equal_pc (u u2 : Ut) (h : okU u) (h2 : okU u2) : PC Tryd.prog envU 43 [uv u, uv u2] [.bool (decide (u = u2))] :=
  lift_bool (enters_of Tryd.func43 rfl rfl) fun Q w vs hQ hR hvs => by
    unfold RepIs at hvs
    obtain ⟨v, r, rfl, h3, h4⟩ := hvs
    unfold RepIs at h4
    obtain ⟨v2, r2, rfl, h5, h6⟩ := h4
    unfold RepIs at h6
    subst h6
    exact equal_any u.count u u2 v v2 w (Nat.le_refl _) (utv_to hQ h h3) (utv_to hQ h2 h5)
theorem nodup_at {l : List Trip} (h : l.Nodup) {i j : Nat} {x : Trip} (hi : l[i]? = some x) (hj : l[j]? = some x) : i = j := by
  obtain ⟨h1, h2⟩ := List.getElem?_eq_some_iff.1 hi
  obtain ⟨h3, h4⟩ := List.getElem?_eq_some_iff.1 hj
  exact (List.getElem_inj h).1 (h2.trans h4.symm)
theorem ids_nodup {u : Ut} (hv : validB u = true) (h : u.count ≤ 1 ∨ ∃ y, u.ids[1]? = some y ∧ y ≠ .zero) : (u.all.map Ut.id).Nodup := by
  have hl := uids_len u
  rcases h with h | ⟨y, hy, hz⟩
  · have h1 : u.ids.length ≤ 1 := by omega
    show u.ids.Nodup
    match u.ids, h1 with
    | [], _ => exact List.nodup_nil
    | [a], _ => exact List.nodup_cons.2 ⟨by simp, List.nodup_nil⟩
    | _ :: _ :: _, h1 => simp at h1
  · unfold validB idsB at hv
    simp only [Bool.and_eq_true, Bool.or_eq_true, decide_eq_true_eq] at hv
    rcases hv.2 with h1 | h1
    · exfalso
      have hm : y ∈ u.all.map Ut.id := List.mem_of_getElem? hy
      obtain ⟨x, hx, rfl⟩ := List.mem_map.1 hm
      have := List.all_eq_true.1 h1 x hx
      exact hz (by simpa using this)
    · exact h1.1
theorem paths_pc (u : Ut) (hok : okU u) (hb : u.count ≤ 1048576) (z : Int) : PC Tryd.prog envU 6 [uv u, .int .i64 z] [.bool true] := by
  have hF := few_pc envU rfl u 60 hok (by omega) (by omega)
  have hue := uv_eq u
  have hI := ids_pc u (by omega)
  have hil : (u.ids.map idv).length = u.count := by rw [List.length_map, uids_len]
  rw [hue] at hF hI ⊢
  by_cases hfew : fewU u 60 = true
  case neg =>
    have hfew : fewU u 60 = false := by simpa using hfew
    rw [hfew] at hF
    refine PC.of_vc (T := tb0) eqs_ok tb_ok rfl mixed Tryd.func6 rfl rfl ?_; intro Γ C WK LP fin h0 hW hC hB hR hLP hfin
    (repeat ((conv => whnf); first | (with_reducible refine Fork.mk (fun _ => ?_) (fun hc => ?_)); rotate_left; (exfalso; first | omega | (simp [eqC, cellsI, idv, idl] at hc; done) | (simp [eqC, cellsI, idv, idl] at hc; omega) | contradiction) | (with_reducible refine Fork.mk (fun hc => ?_) (fun _ => ?_)); (exfalso; first | omega | (simp [eqC, cellsI, idv, idl] at hc; done) | (simp [eqC, cellsI, idv, idl] at hc; omega) | contradiction) | (with_reducible refine Owe.mk ?_ ?_); (first | omega | (unfold most; omega) | decide +kernel | assumption | (simp [most]; done) | (simp [most]; omega)) | (with_reducible intro z hz); first | (replace hz := hz (by omega); subst hz) | subst hz)); try (conv => whnf)
    refine CallV.mk _ (hC _ _ _ (PCw.of (awake_pc))) (fun js hjs => ?_); subst hjs
    (repeat ((conv => whnf); first | (with_reducible refine Fork.mk (fun _ => ?_) (fun hc => ?_)); rotate_left; (exfalso; first | omega | (simp [eqC, cellsI, idv, idl] at hc; done) | (simp [eqC, cellsI, idv, idl] at hc; omega) | contradiction) | (with_reducible refine Fork.mk (fun hc => ?_) (fun _ => ?_)); (exfalso; first | omega | (simp [eqC, cellsI, idv, idl] at hc; done) | (simp [eqC, cellsI, idv, idl] at hc; omega) | contradiction) | (with_reducible refine Owe.mk ?_ ?_); (first | omega | (unfold most; omega) | decide +kernel | assumption | (simp [most]; done) | (simp [most]; omega)) | (with_reducible intro z hz); first | (replace hz := hz (by omega); subst hz) | subst hz)); try (conv => whnf)
    refine CallV.mk _ (hC _ _ _ (PCw.of (hI))) (fun js hjs => ?_); subst hjs
    (repeat ((conv => whnf); first | (with_reducible refine Fork.mk (fun _ => ?_) (fun hc => ?_)); rotate_left; (exfalso; first | omega | (simp [eqC, cellsI, idv, idl] at hc; done) | (simp [eqC, cellsI, idv, idl] at hc; omega) | contradiction) | (with_reducible refine Fork.mk (fun hc => ?_) (fun _ => ?_)); (exfalso; first | omega | (simp [eqC, cellsI, idv, idl] at hc; done) | (simp [eqC, cellsI, idv, idl] at hc; omega) | contradiction) | (with_reducible refine Owe.mk ?_ ?_); (first | omega | (unfold most; omega) | decide +kernel | assumption | (simp [most]; done) | (simp [most]; omega)) | (with_reducible intro z hz); first | (replace hz := hz (by omega); subst hz) | subst hz)); try (conv => whnf)
    refine CallV.mk _ (hC _ _ _ (PCw.of (hF))) (fun js hjs => ?_); subst hjs
    (repeat ((conv => whnf); first | (with_reducible refine Fork.mk (fun _ => ?_) (fun hc => ?_)); rotate_left; (exfalso; first | omega | (simp [eqC, cellsI, idv, idl] at hc; done) | (simp [eqC, cellsI, idv, idl] at hc; omega) | contradiction) | (with_reducible refine Fork.mk (fun hc => ?_) (fun _ => ?_)); (exfalso; first | omega | (simp [eqC, cellsI, idv, idl] at hc; done) | (simp [eqC, cellsI, idv, idl] at hc; omega) | contradiction) | (with_reducible refine Owe.mk ?_ ?_); (first | omega | (unfold most; omega) | decide +kernel | assumption | (simp [most]; done) | (simp [most]; omega)) | (with_reducible intro z hz); first | (replace hz := hz (by omega); subst hz) | subst hz)); try (conv => whnf)
    exact hfin _ (ILes.refl _)
  rw [hfew] at hF
  have hsm := few_small (m := 60) hfew
  obtain ⟨hs, hc, hdp⟩ := small_of hsm
  have hV := valid_pc u hok (hsm.tame (by omega))
  rw [hue] at hV
  by_cases hv : validB u = true
  case neg =>
    have hv : validB u = false := by simpa using hv
    rw [hv] at hV
    refine PC.of_vc (T := tb0) eqs_ok tb_ok rfl mixed Tryd.func6 rfl rfl ?_; intro Γ C WK LP fin h0 hW hC hB hR hLP hfin
    (repeat ((conv => whnf); first | (with_reducible refine Fork.mk (fun _ => ?_) (fun hc => ?_)); rotate_left; (exfalso; first | omega | (simp [eqC, cellsI, idv, idl] at hc; done) | (simp [eqC, cellsI, idv, idl] at hc; omega) | contradiction) | (with_reducible refine Fork.mk (fun hc => ?_) (fun _ => ?_)); (exfalso; first | omega | (simp [eqC, cellsI, idv, idl] at hc; done) | (simp [eqC, cellsI, idv, idl] at hc; omega) | contradiction) | (with_reducible refine Owe.mk ?_ ?_); (first | omega | (unfold most; omega) | decide +kernel | assumption | (simp [most]; done) | (simp [most]; omega)) | (with_reducible intro z hz); first | (replace hz := hz (by omega); subst hz) | subst hz)); try (conv => whnf)
    refine CallV.mk _ (hC _ _ _ (PCw.of (awake_pc))) (fun js hjs => ?_); subst hjs
    (repeat ((conv => whnf); first | (with_reducible refine Fork.mk (fun _ => ?_) (fun hc => ?_)); rotate_left; (exfalso; first | omega | (simp [eqC, cellsI, idv, idl] at hc; done) | (simp [eqC, cellsI, idv, idl] at hc; omega) | contradiction) | (with_reducible refine Fork.mk (fun hc => ?_) (fun _ => ?_)); (exfalso; first | omega | (simp [eqC, cellsI, idv, idl] at hc; done) | (simp [eqC, cellsI, idv, idl] at hc; omega) | contradiction) | (with_reducible refine Owe.mk ?_ ?_); (first | omega | (unfold most; omega) | decide +kernel | assumption | (simp [most]; done) | (simp [most]; omega)) | (with_reducible intro z hz); first | (replace hz := hz (by omega); subst hz) | subst hz)); try (conv => whnf)
    refine CallV.mk _ (hC _ _ _ (PCw.of (hI))) (fun js hjs => ?_); subst hjs
    (repeat ((conv => whnf); first | (with_reducible refine Fork.mk (fun _ => ?_) (fun hc => ?_)); rotate_left; (exfalso; first | omega | (simp [eqC, cellsI, idv, idl] at hc; done) | (simp [eqC, cellsI, idv, idl] at hc; omega) | contradiction) | (with_reducible refine Fork.mk (fun hc => ?_) (fun _ => ?_)); (exfalso; first | omega | (simp [eqC, cellsI, idv, idl] at hc; done) | (simp [eqC, cellsI, idv, idl] at hc; omega) | contradiction) | (with_reducible refine Owe.mk ?_ ?_); (first | omega | (unfold most; omega) | decide +kernel | assumption | (simp [most]; done) | (simp [most]; omega)) | (with_reducible intro z hz); first | (replace hz := hz (by omega); subst hz) | subst hz)); try (conv => whnf)
    refine CallV.mk _ (hC _ _ _ (PCw.of (hF))) (fun js hjs => ?_); subst hjs
    (repeat ((conv => whnf); first | (with_reducible refine Fork.mk (fun _ => ?_) (fun hc => ?_)); rotate_left; (exfalso; first | omega | (simp [eqC, cellsI, idv, idl] at hc; done) | (simp [eqC, cellsI, idv, idl] at hc; omega) | contradiction) | (with_reducible refine Fork.mk (fun hc => ?_) (fun _ => ?_)); (exfalso; first | omega | (simp [eqC, cellsI, idv, idl] at hc; done) | (simp [eqC, cellsI, idv, idl] at hc; omega) | contradiction) | (with_reducible refine Owe.mk ?_ ?_); (first | omega | (unfold most; omega) | decide +kernel | assumption | (simp [most]; done) | (simp [most]; omega)) | (with_reducible intro z hz); first | (replace hz := hz (by omega); subst hz) | subst hz)); try (conv => whnf)
    refine CallV.mk _ (hC _ _ _ (PCw.of (hV))) (fun js hjs => ?_); subst hjs
    (repeat ((conv => whnf); first | (with_reducible refine Fork.mk (fun _ => ?_) (fun hc => ?_)); rotate_left; (exfalso; first | omega | (simp [eqC, cellsI, idv, idl] at hc; done) | (simp [eqC, cellsI, idv, idl] at hc; omega) | contradiction) | (with_reducible refine Fork.mk (fun hc => ?_) (fun _ => ?_)); (exfalso; first | omega | (simp [eqC, cellsI, idv, idl] at hc; done) | (simp [eqC, cellsI, idv, idl] at hc; omega) | contradiction) | (with_reducible refine Owe.mk ?_ ?_); (first | omega | (unfold most; omega) | decide +kernel | assumption | (simp [most]; done) | (simp [most]; omega)) | (with_reducible intro z hz); first | (replace hz := hz (by omega); subst hz) | subst hz)); try (conv => whnf)
    exact hfin _ (ILes.refl _)
  rw [hv] at hV
  have h5 := count_pc u.count u (Nat.le_refl _) (by omega)
  rw [hue] at h5
  refine PC.of_vc (T := tb0) eqs_ok tb_ok rfl mixed Tryd.func6 rfl rfl ?_; intro Γ C WK LP fin h0 hW hC hB hR hLP hfin
  (repeat ((conv => whnf); first | (with_reducible refine Fork.mk (fun _ => ?_) (fun hc => ?_)); rotate_left; (exfalso; first | omega | (simp [eqC, cellsI, idv, idl] at hc; done) | (simp [eqC, cellsI, idv, idl] at hc; omega) | contradiction) | (with_reducible refine Fork.mk (fun hc => ?_) (fun _ => ?_)); (exfalso; first | omega | (simp [eqC, cellsI, idv, idl] at hc; done) | (simp [eqC, cellsI, idv, idl] at hc; omega) | contradiction) | (with_reducible refine Owe.mk ?_ ?_); (first | omega | (unfold most; omega) | decide +kernel | assumption | (simp [most]; done) | (simp [most]; omega)) | (with_reducible intro z hz); first | (replace hz := hz (by omega); subst hz) | subst hz)); try (conv => whnf)
  refine CallV.mk _ (hC _ _ _ (PCw.of (awake_pc))) (fun js hjs => ?_); subst hjs
  (repeat ((conv => whnf); first | (with_reducible refine Fork.mk (fun _ => ?_) (fun hc => ?_)); rotate_left; (exfalso; first | omega | (simp [eqC, cellsI, idv, idl] at hc; done) | (simp [eqC, cellsI, idv, idl] at hc; omega) | contradiction) | (with_reducible refine Fork.mk (fun hc => ?_) (fun _ => ?_)); (exfalso; first | omega | (simp [eqC, cellsI, idv, idl] at hc; done) | (simp [eqC, cellsI, idv, idl] at hc; omega) | contradiction) | (with_reducible refine Owe.mk ?_ ?_); (first | omega | (unfold most; omega) | decide +kernel | assumption | (simp [most]; done) | (simp [most]; omega)) | (with_reducible intro z hz); first | (replace hz := hz (by omega); subst hz) | subst hz)); try (conv => whnf)
  refine CallV.mk _ (hC _ _ _ (PCw.of (hI))) (fun js hjs => ?_); subst hjs
  (repeat ((conv => whnf); first | (with_reducible refine Fork.mk (fun _ => ?_) (fun hc => ?_)); rotate_left; (exfalso; first | omega | (simp [eqC, cellsI, idv, idl] at hc; done) | (simp [eqC, cellsI, idv, idl] at hc; omega) | contradiction) | (with_reducible refine Fork.mk (fun hc => ?_) (fun _ => ?_)); (exfalso; first | omega | (simp [eqC, cellsI, idv, idl] at hc; done) | (simp [eqC, cellsI, idv, idl] at hc; omega) | contradiction) | (with_reducible refine Owe.mk ?_ ?_); (first | omega | (unfold most; omega) | decide +kernel | assumption | (simp [most]; done) | (simp [most]; omega)) | (with_reducible intro z hz); first | (replace hz := hz (by omega); subst hz) | subst hz)); try (conv => whnf)
  refine CallV.mk _ (hC _ _ _ (PCw.of (hF))) (fun js hjs => ?_); subst hjs
  (repeat ((conv => whnf); first | (with_reducible refine Fork.mk (fun _ => ?_) (fun hc => ?_)); rotate_left; (exfalso; first | omega | (simp [eqC, cellsI, idv, idl] at hc; done) | (simp [eqC, cellsI, idv, idl] at hc; omega) | contradiction) | (with_reducible refine Fork.mk (fun hc => ?_) (fun _ => ?_)); (exfalso; first | omega | (simp [eqC, cellsI, idv, idl] at hc; done) | (simp [eqC, cellsI, idv, idl] at hc; omega) | contradiction) | (with_reducible refine Owe.mk ?_ ?_); (first | omega | (unfold most; omega) | decide +kernel | assumption | (simp [most]; done) | (simp [most]; omega)) | (with_reducible intro z hz); first | (replace hz := hz (by omega); subst hz) | subst hz)); try (conv => whnf)
  refine CallV.mk _ (hC _ _ _ (PCw.of (hV))) (fun js hjs => ?_); subst hjs
  by_cases hz0 : z < 0
  · (repeat ((conv => whnf); first | (with_reducible refine Fork.mk (fun _ => ?_) (fun hc => ?_)); rotate_left; (exfalso; first | omega | (simp [eqC, cellsI, idv, idl] at hc; done) | (simp [eqC, cellsI, idv, idl] at hc; omega) | contradiction) | (with_reducible refine Fork.mk (fun hc => ?_) (fun _ => ?_)); (exfalso; first | omega | (simp [eqC, cellsI, idv, idl] at hc; done) | (simp [eqC, cellsI, idv, idl] at hc; omega) | contradiction) | (with_reducible refine Owe.mk ?_ ?_); (first | omega | (unfold most; omega) | decide +kernel | assumption | (simp [most]; done) | (simp [most]; omega)) | (with_reducible intro z hz); first | (replace hz := hz (by omega); subst hz) | subst hz)); try (conv => whnf)
    exact hfin _ (ILes.refl _)
  obtain ⟨n, rfl⟩ : ∃ n : Nat, z = n := ⟨z.toNat, by omega⟩
  by_cases hzn : u.count ≤ n
  · (repeat ((conv => whnf); first | (with_reducible refine Fork.mk (fun _ => ?_) (fun hc => ?_)); rotate_left; (exfalso; first | omega | (simp [eqC, cellsI, idv, idl] at hc; done) | (simp [eqC, cellsI, idv, idl] at hc; omega) | contradiction) | (with_reducible refine Fork.mk (fun hc => ?_) (fun _ => ?_)); (exfalso; first | omega | (simp [eqC, cellsI, idv, idl] at hc; done) | (simp [eqC, cellsI, idv, idl] at hc; omega) | contradiction) | (with_reducible refine Owe.mk ?_ ?_); (first | omega | (unfold most; omega) | decide +kernel | assumption | (simp [most]; done) | (simp [most]; omega)) | (with_reducible intro z hz); first | (replace hz := hz (by omega); subst hz) | subst hz)); try (conv => whnf)
    exact hfin _ (ILes.refl _)
  have hnl : n < u.ids.length := by rw [uids_len]; omega
  obtain ⟨t, ht⟩ : ∃ t, u.ids[n]? = some t := ⟨u.ids[n], List.getElem?_eq_getElem hnl⟩
  have hcore : (u.all.map Ut.id).Nodup → ∃ x r0, linL t u = x :: r0 ∧ x.id = t ∧ x ∈ u.all ∧ okU x := fun _ => by
    cases hlin : linL t u with
    | nil =>
      exfalso
      obtain ⟨y, hy, hyt⟩ := List.mem_map.1 (List.mem_of_getElem? ht)
      exact lin_nil hlin y hy hyt
    | cons x r0 =>
      obtain ⟨h1, h2⟩ := lin_mem hlin
      exact ⟨x, r0, rfl, h1, h2, fun y hy => hok y (all_trans u.count u x (Nat.le_refl _) h2 y hy)⟩
  have hfnd : ∀ x r0, linL t u = x :: r0 → PC Tryd.prog envU 27 [uv u, idv t] [uv x, .bool true] := fun x r0 hlin => by
    have h1 := find_pc t u (by omega) hs
    have h2 : findU t u = x ∧ foundB t u = true := by unfold findU foundB; rw [hlin]; exact ⟨rfl, rfl⟩
    rw [h2.1, h2.2] at h1
    exact h1
  by_cases h1c : 1 < u.count
  · obtain ⟨y1, hy1⟩ : ∃ y, u.ids[1]? = some y := ⟨u.ids[1]'(by rw [uids_len]; omega), List.getElem?_eq_getElem _⟩
    (repeat ((conv => whnf); first | (with_reducible refine Fork.mk (fun _ => ?_) (fun hc => ?_)); rotate_left; (exfalso; first | omega | (simp [eqC, cellsI, idv, idl] at hc; done) | (simp [eqC, cellsI, idv, idl] at hc; omega) | contradiction) | (with_reducible refine Fork.mk (fun hc => ?_) (fun _ => ?_)); (exfalso; first | omega | (simp [eqC, cellsI, idv, idl] at hc; done) | (simp [eqC, cellsI, idv, idl] at hc; omega) | contradiction) | (with_reducible refine Owe.mk ?_ ?_); (first | omega | (unfold most; omega) | decide +kernel | assumption | (simp [most]; done) | (simp [most]; omega)) | (with_reducible intro z hz); first | (replace hz := hz (by omega); subst hz) | subst hz)); try (conv => whnf)
    refine Idx.mk 1 (idv y1) _ rfl (by simp [hy1]) rfl ?_
    by_cases hyz : y1 = .zero
    · have hi := trip_eq hyz
      simp only [Trip.zero] at hi
      (repeat ((conv => whnf); first | (with_reducible refine Fork.mk (fun _ => ?_) (fun hc => ?_)); rotate_left; (exfalso; first | omega | (simp [eqC, cellsI, idv, idl] at hc; done) | (simp [eqC, cellsI, idv, idl] at hc; omega) | contradiction) | (with_reducible refine Fork.mk (fun hc => ?_) (fun _ => ?_)); (exfalso; first | omega | (simp [eqC, cellsI, idv, idl] at hc; done) | (simp [eqC, cellsI, idv, idl] at hc; omega) | contradiction) | (with_reducible refine Owe.mk ?_ ?_); (first | omega | (unfold most; omega) | decide +kernel | assumption | (simp [most]; done) | (simp [most]; omega)) | (with_reducible intro z hz); first | (replace hz := hz (by omega); subst hz) | subst hz)); try (conv => whnf)
      exact hfin _ (ILes.refl _)
    · have hi := trip_ne hyz
      simp only [Trip.zero] at hi
      have hd := ids_nodup hv (Or.inr ⟨y1, hy1, hyz⟩)
      obtain ⟨x, r0, hlin, hxi, hxa, hxok⟩ := hcore hd
      have hux := uv_eq x
      have hxi' := trip_eq hxi
      have h1 := hfnd x r0 hlin
      rw [hue, hux, show idv t = .agg [.int .i64 t.x, .int .i64 t.y, .int .i64 t.z] from rfl] at h1
      (repeat ((conv => whnf); first | (with_reducible refine Fork.mk (fun _ => ?_) (fun hc => ?_)); rotate_left; (exfalso; first | omega | (simp [eqC, cellsI, idv, idl] at hc; done) | (simp [eqC, cellsI, idv, idl] at hc; omega) | contradiction) | (with_reducible refine Fork.mk (fun hc => ?_) (fun _ => ?_)); (exfalso; first | omega | (simp [eqC, cellsI, idv, idl] at hc; done) | (simp [eqC, cellsI, idv, idl] at hc; omega) | contradiction) | (with_reducible refine Owe.mk ?_ ?_); (first | omega | (unfold most; omega) | decide +kernel | assumption | (simp [most]; done) | (simp [most]; omega)) | (with_reducible intro z hz); first | (replace hz := hz (by omega); subst hz) | subst hz)); try (conv => whnf)
      refine Idx.mk n (idv t) _ rfl (by simp [ht]) rfl ?_
      (repeat ((conv => whnf); first | (with_reducible refine Fork.mk (fun _ => ?_) (fun hc => ?_)); rotate_left; (exfalso; first | omega | (simp [eqC, cellsI, idv, idl] at hc; done) | (simp [eqC, cellsI, idv, idl] at hc; omega) | contradiction) | (with_reducible refine Fork.mk (fun hc => ?_) (fun _ => ?_)); (exfalso; first | omega | (simp [eqC, cellsI, idv, idl] at hc; done) | (simp [eqC, cellsI, idv, idl] at hc; omega) | contradiction) | (with_reducible refine Owe.mk ?_ ?_); (first | omega | (unfold most; omega) | decide +kernel | assumption | (simp [most]; done) | (simp [most]; omega)) | (with_reducible intro z hz); first | (replace hz := hz (by omega); subst hz) | subst hz)); try (conv => whnf)
      refine CallV.mk _ (hC _ _ _ (PCw.of (h1))) (fun js hjs => ?_); subst hjs
      (repeat ((conv => whnf); first | (with_reducible refine Fork.mk (fun _ => ?_) (fun hc => ?_)); rotate_left; (exfalso; first | omega | (simp [eqC, cellsI, idv, idl] at hc; done) | (simp [eqC, cellsI, idv, idl] at hc; omega) | contradiction) | (with_reducible refine Fork.mk (fun hc => ?_) (fun _ => ?_)); (exfalso; first | omega | (simp [eqC, cellsI, idv, idl] at hc; done) | (simp [eqC, cellsI, idv, idl] at hc; omega) | contradiction) | (with_reducible refine Owe.mk ?_ ?_); (first | omega | (unfold most; omega) | decide +kernel | assumption | (simp [most]; done) | (simp [most]; omega)) | (with_reducible intro z hz); first | (replace hz := hz (by omega); subst hz) | subst hz)); try (conv => whnf)
      refine Idx.mk n (idv t) _ rfl (by simp [ht]) rfl ?_
      (repeat ((conv => whnf); first | (with_reducible refine Fork.mk (fun _ => ?_) (fun hc => ?_)); rotate_left; (exfalso; first | omega | (simp [eqC, cellsI, idv, idl] at hc; done) | (simp [eqC, cellsI, idv, idl] at hc; omega) | contradiction) | (with_reducible refine Fork.mk (fun hc => ?_) (fun _ => ?_)); (exfalso; first | omega | (simp [eqC, cellsI, idv, idl] at hc; done) | (simp [eqC, cellsI, idv, idl] at hc; omega) | contradiction) | (with_reducible refine Owe.mk ?_ ?_); (first | omega | (unfold most; omega) | decide +kernel | assumption | (simp [most]; done) | (simp [most]; omega)) | (with_reducible intro z hz); first | (replace hz := hz (by omega); subst hz) | subst hz)); try (conv => whnf)
      refine CallV.mk _ (hC _ _ _ (PCw.of (h5))) (fun js hjs => ?_); subst hjs
      (repeat ((conv => whnf); first | (with_reducible refine Fork.mk (fun _ => ?_) (fun hc => ?_)); rotate_left; (exfalso; first | omega | (simp [eqC, cellsI, idv, idl] at hc; done) | (simp [eqC, cellsI, idv, idl] at hc; omega) | contradiction) | (with_reducible refine Fork.mk (fun hc => ?_) (fun _ => ?_)); (exfalso; first | omega | (simp [eqC, cellsI, idv, idl] at hc; done) | (simp [eqC, cellsI, idv, idl] at hc; omega) | contradiction) | (with_reducible refine Owe.mk ?_ ?_); (first | omega | (unfold most; omega) | decide +kernel | assumption | (simp [most]; done) | (simp [most]; omega)) | (with_reducible intro z hz); first | (replace hz := hz (by omega); subst hz) | subst hz)); try (conv => whnf)
      refine Idx.mk n (idv t) _ rfl (by simp [ht]) rfl ?_
      (repeat ((conv => whnf); first | (with_reducible refine Fork.mk (fun _ => ?_) (fun hc => ?_)); rotate_left; (exfalso; first | omega | (simp [eqC, cellsI, idv, idl] at hc; done) | (simp [eqC, cellsI, idv, idl] at hc; omega) | contradiction) | (with_reducible refine Fork.mk (fun hc => ?_) (fun _ => ?_)); (exfalso; first | omega | (simp [eqC, cellsI, idv, idl] at hc; done) | (simp [eqC, cellsI, idv, idl] at hc; omega) | contradiction) | (with_reducible refine Owe.mk ?_ ?_); (first | omega | (unfold most; omega) | decide +kernel | assumption | (simp [most]; done) | (simp [most]; omega)) | (with_reducible intro z hz); first | (replace hz := hz (by omega); subst hz) | subst hz)); try (conv => whnf)
      by_cases hn0 : n = 0
      · have hut : u.id = t := by
          rw [hn0, ids_eq, List.getElem?_cons_zero] at ht
          exact Option.some.inj ht
        have h3 := parent_pc t u (by omega)
        rw [par_self hut, hue, show idv t = .agg [.int .i64 t.x, .int .i64 t.y, .int .i64 t.z] from rfl, show idv (Trip.zero, (-1 : Int), false).1 = .agg [.int .i64 0, .int .i64 0, .int .i64 0] from rfl] at h3
        have h13 := anc_pc t u (by omega)
        rw [anc_self hut, hue, show idv t = .agg [.int .i64 t.x, .int .i64 t.y, .int .i64 t.z] from rfl] at h13
        have hl0 : (([] : List Trip).map idv).length = 0 := rfl
        refine CallV.mk _ (hC _ _ _ (PCw.of (h3))) (fun js hjs => ?_); subst hjs
        (repeat ((conv => whnf); first | (with_reducible refine Fork.mk (fun _ => ?_) (fun hc => ?_)); rotate_left; (exfalso; first | omega | (simp [eqC, cellsI, idv, idl] at hc; done) | (simp [eqC, cellsI, idv, idl] at hc; omega) | contradiction) | (with_reducible refine Fork.mk (fun hc => ?_) (fun _ => ?_)); (exfalso; first | omega | (simp [eqC, cellsI, idv, idl] at hc; done) | (simp [eqC, cellsI, idv, idl] at hc; omega) | contradiction) | (with_reducible refine Owe.mk ?_ ?_); (first | omega | (unfold most; omega) | decide +kernel | assumption | (simp [most]; done) | (simp [most]; omega)) | (with_reducible intro z hz); first | (replace hz := hz (by omega); subst hz) | subst hz)); try (conv => whnf)
        refine Idx.mk n (idv t) _ rfl (by simp [ht]) rfl ?_
        (repeat ((conv => whnf); first | (with_reducible refine Fork.mk (fun _ => ?_) (fun hc => ?_)); rotate_left; (exfalso; first | omega | (simp [eqC, cellsI, idv, idl] at hc; done) | (simp [eqC, cellsI, idv, idl] at hc; omega) | contradiction) | (with_reducible refine Fork.mk (fun hc => ?_) (fun _ => ?_)); (exfalso; first | omega | (simp [eqC, cellsI, idv, idl] at hc; done) | (simp [eqC, cellsI, idv, idl] at hc; omega) | contradiction) | (with_reducible refine Owe.mk ?_ ?_); (first | omega | (unfold most; omega) | decide +kernel | assumption | (simp [most]; done) | (simp [most]; omega)) | (with_reducible intro z hz); first | (replace hz := hz (by omega); subst hz) | subst hz)); try (conv => whnf)
        refine CallV.mk _ (hC _ _ _ (PCw.of (h13))) (fun js hjs => ?_); subst hjs
        (repeat ((conv => whnf); first | (with_reducible refine Fork.mk (fun _ => ?_) (fun hc => ?_)); rotate_left; (exfalso; first | omega | (simp [eqC, cellsI, idv, idl] at hc; done) | (simp [eqC, cellsI, idv, idl] at hc; omega) | contradiction) | (with_reducible refine Fork.mk (fun hc => ?_) (fun _ => ?_)); (exfalso; first | omega | (simp [eqC, cellsI, idv, idl] at hc; done) | (simp [eqC, cellsI, idv, idl] at hc; omega) | contradiction) | (with_reducible refine Owe.mk ?_ ?_); (first | omega | (unfold most; omega) | decide +kernel | assumption | (simp [most]; done) | (simp [most]; omega)) | (with_reducible intro z hz); first | (replace hz := hz (by omega); subst hz) | subst hz)); try (conv => whnf)
        exact hfin _ (ILes.refl _)
      · have hut : u.id ≠ t := fun e => hn0 (by
          have h9 : u.ids[0]? = some t := by rw [ids_eq, List.getElem?_cons_zero, e]
          exact nodup_at hd ht h9)
        obtain ⟨p, r, hxp⟩ : ∃ p r, linL t u = x :: p :: r := by
          cases r0 with
          | nil =>
            exfalso
            have hk : linK t u.kids ≠ [] := fun e => by rw [lin_none hut e] at hlin; cases hlin
            rw [lin_some hut hk] at hlin
            have := congrArg List.length hlin
            rw [List.length_append] at this
            have h3 : 0 < (linK t u.kids).length := List.length_pos_iff.2 hk
            simp at this
            exact hk this
          | cons p r => exact ⟨p, r, hlin⟩
        obtain ⟨hxk, hpa⟩ := lin_second t u.count u (Nat.le_refl _) x p r hxp
        have hup := lin_up u.count u (Nat.le_refl _) hd x p r hxp
        have hlt := hit_lt hxk hxi
        have hpar : parV t u = (p.id, ((p.kids.findIdx (hitP t) : Nat) : Int), true) := by unfold parV; rw [hxp]; rfl
        have hanc : ancL t u = p.id :: r.map Ut.id := by unfold ancL; rw [hxp]; rfl
        have hanp : ancL p.id u = r.map Ut.id := by unfold ancL; rw [hup]; rfl
        have hfp : findU p.id u = p ∧ foundB p.id u = true := by unfold findU foundB; rw [hup]; exact ⟨rfl, rfl⟩
        have hkx : p.kids[p.kids.findIdx (hitP t)]? = some x := by
          have h1 := List.findIdx_getElem (xs := p.kids) (p := hitP t) (w := hlt)
          rw [List.getElem?_eq_getElem hlt]
          have h2 : (p.kids[p.kids.findIdx (hitP t)]).id = t := by simpa [hitP] using h1
          have hin : ∀ y ∈ p.kids, y ∈ u.all := fun y hy => all_trans u.count u p (Nat.le_refl _) hpa y (by rw [Ut.all_eq]; exact List.mem_cons_of_mem _ (mem_alls.2 ⟨y, hy, self_all y⟩))
          exact congrArg some (map_inj_of_nodup hd (hin _ (List.getElem_mem hlt)) (hin _ hxk) (by rw [h2, hxi]))
        have hlast : (ancL t u)[r.length]? = some u.id := by
          have h1 := lin_last (t := t) (u := u) (by rw [hxp]; simp)
          rw [hxp] at h1
          rw [hanc]
          have h2 : (p :: r).getLast? = some u := by simpa using h1
          rw [List.getLast?_eq_getElem?] at h2
          have h3 : (p.id :: r.map Ut.id) = (p :: r).map Ut.id := rfl
          rw [h3, List.getElem?_map]
          have : (p :: r).length - 1 = r.length := by simp
          rw [this] at h2
          rw [h2]
          rfl
        have hdep := lin_depth t u
        have hal : ((ancL t u).map idv).length = r.length + 1 := by rw [hanc]; simp
        have hrl : r.length + 2 ≤ u.depth + 1 := by rw [hxp] at hdep; simpa using hdep
        have hkl : (p.kids.map uv).length = p.kids.length := List.length_map _
        have hup' := uv_eq p
        have h3 := parent_pc t u (by omega)
        rw [hpar, hue, show idv t = .agg [.int .i64 t.x, .int .i64 t.y, .int .i64 t.z] from rfl, show idv (p.id, ((p.kids.findIdx (hitP t) : Nat) : Int), true).1 = .agg [.int .i64 p.id.x, .int .i64 p.id.y, .int .i64 p.id.z] from rfl] at h3
        have h13 := anc_pc t u (by omega)
        rw [hue, show idv t = .agg [.int .i64 t.x, .int .i64 t.y, .int .i64 t.z] from rfl] at h13
        have h1p := find_pc p.id u (by omega) hs
        rw [hfp.1, hfp.2, hue, hup', show idv p.id = .agg [.int .i64 p.id.x, .int .i64 p.id.y, .int .i64 p.id.z] from rfl] at h1p
        have heq := equal_pc x x hxok hxok
        rw [decide_eq_true rfl, hux] at heq
        have h13p := anc_pc p.id u (by omega)
        rw [hanp, hue, show idv p.id = .agg [.int .i64 p.id.x, .int .i64 p.id.y, .int .i64 p.id.z] from rfl] at h13p
        have h7 := depth_pc envU rfl u.count u (Nat.le_refl _) (by omega) (by omega)
        rw [hue] at h7
        have hak := alike_pc (r.map Ut.id) (r.map Ut.id) (by rw [List.length_map]; omega)
        rw [decide_eq_true rfl] at hak
        have hdrop : ((ancL t u).map idv).drop (Int.toNat 1) = (r.map Ut.id).map idv := by rw [hanc]; rfl
        refine CallV.mk _ (hC _ _ _ (PCw.of (h3))) (fun js hjs => ?_); subst hjs
        (repeat ((conv => whnf); first | (with_reducible refine Fork.mk (fun _ => ?_) (fun hc => ?_)); rotate_left; (exfalso; first | omega | (simp [eqC, cellsI, idv, idl] at hc; done) | (simp [eqC, cellsI, idv, idl] at hc; omega) | contradiction) | (with_reducible refine Fork.mk (fun hc => ?_) (fun _ => ?_)); (exfalso; first | omega | (simp [eqC, cellsI, idv, idl] at hc; done) | (simp [eqC, cellsI, idv, idl] at hc; omega) | contradiction) | (with_reducible refine Owe.mk ?_ ?_); (first | omega | (unfold most; omega) | decide +kernel | assumption | (simp [most]; done) | (simp [most]; omega)) | (with_reducible intro z hz); first | (replace hz := hz (by omega); subst hz) | subst hz)); try (conv => whnf)
        refine Idx.mk n (idv t) _ rfl (by simp [ht]) rfl ?_
        (repeat ((conv => whnf); first | (with_reducible refine Fork.mk (fun _ => ?_) (fun hc => ?_)); rotate_left; (exfalso; first | omega | (simp [eqC, cellsI, idv, idl] at hc; done) | (simp [eqC, cellsI, idv, idl] at hc; omega) | contradiction) | (with_reducible refine Fork.mk (fun hc => ?_) (fun _ => ?_)); (exfalso; first | omega | (simp [eqC, cellsI, idv, idl] at hc; done) | (simp [eqC, cellsI, idv, idl] at hc; omega) | contradiction) | (with_reducible refine Owe.mk ?_ ?_); (first | omega | (unfold most; omega) | decide +kernel | assumption | (simp [most]; done) | (simp [most]; omega)) | (with_reducible intro z hz); first | (replace hz := hz (by omega); subst hz) | subst hz)); try (conv => whnf)
        refine CallV.mk _ (hC _ _ _ (PCw.of (h13))) (fun js hjs => ?_); subst hjs
        (repeat ((conv => whnf); first | (with_reducible refine Fork.mk (fun _ => ?_) (fun hc => ?_)); rotate_left; (exfalso; first | omega | (simp [eqC, cellsI, idv, idl] at hc; done) | (simp [eqC, cellsI, idv, idl] at hc; omega) | contradiction) | (with_reducible refine Fork.mk (fun hc => ?_) (fun _ => ?_)); (exfalso; first | omega | (simp [eqC, cellsI, idv, idl] at hc; done) | (simp [eqC, cellsI, idv, idl] at hc; omega) | contradiction) | (with_reducible refine Owe.mk ?_ ?_); (first | omega | (unfold most; omega) | decide +kernel | assumption | (simp [most]; done) | (simp [most]; omega)) | (with_reducible intro z hz); first | (replace hz := hz (by omega); subst hz) | subst hz)); try (conv => whnf)
        refine CallV.mk _ (hC _ _ _ (PCw.of (h1p))) (fun js hjs => ?_); subst hjs
        (repeat ((conv => whnf); first | (with_reducible refine Fork.mk (fun _ => ?_) (fun hc => ?_)); rotate_left; (exfalso; first | omega | (simp [eqC, cellsI, idv, idl] at hc; done) | (simp [eqC, cellsI, idv, idl] at hc; omega) | contradiction) | (with_reducible refine Fork.mk (fun hc => ?_) (fun _ => ?_)); (exfalso; first | omega | (simp [eqC, cellsI, idv, idl] at hc; done) | (simp [eqC, cellsI, idv, idl] at hc; omega) | contradiction) | (with_reducible refine Owe.mk ?_ ?_); (first | omega | (unfold most; omega) | decide +kernel | assumption | (simp [most]; done) | (simp [most]; omega)) | (with_reducible intro z hz); first | (replace hz := hz (by omega); subst hz) | subst hz)); try (conv => whnf)
        refine Idx.mk (p.kids.findIdx (hitP t)) (uv x) _ rfl (by rw [List.getElem?_map, hkx]; rfl) (by rw [hux]; try rfl) ?_
        (repeat ((conv => whnf); first | (with_reducible refine Fork.mk (fun _ => ?_) (fun hc => ?_)); rotate_left; (exfalso; first | omega | (simp [eqC, cellsI, idv, idl] at hc; done) | (simp [eqC, cellsI, idv, idl] at hc; omega) | contradiction) | (with_reducible refine Fork.mk (fun hc => ?_) (fun _ => ?_)); (exfalso; first | omega | (simp [eqC, cellsI, idv, idl] at hc; done) | (simp [eqC, cellsI, idv, idl] at hc; omega) | contradiction) | (with_reducible refine Owe.mk ?_ ?_); (first | omega | (unfold most; omega) | decide +kernel | assumption | (simp [most]; done) | (simp [most]; omega)) | (with_reducible intro z hz); first | (replace hz := hz (by omega); subst hz) | subst hz)); try (conv => whnf)
        refine CallV.mk _ (hC _ _ _ (PCw.of (heq))) (fun js hjs => ?_); subst hjs
        (repeat ((conv => whnf); first | (with_reducible refine Fork.mk (fun _ => ?_) (fun hc => ?_)); rotate_left; (exfalso; first | omega | (simp [eqC, cellsI, idv, idl] at hc; done) | (simp [eqC, cellsI, idv, idl] at hc; omega) | contradiction) | (with_reducible refine Fork.mk (fun hc => ?_) (fun _ => ?_)); (exfalso; first | omega | (simp [eqC, cellsI, idv, idl] at hc; done) | (simp [eqC, cellsI, idv, idl] at hc; omega) | contradiction) | (with_reducible refine Owe.mk ?_ ?_); (first | omega | (unfold most; omega) | decide +kernel | assumption | (simp [most]; done) | (simp [most]; omega)) | (with_reducible intro z hz); first | (replace hz := hz (by omega); subst hz) | subst hz)); try (conv => whnf)
        refine Idx.mk 0 (idv p.id) [.int .i64 p.id.x, .int .i64 p.id.y, .int .i64 p.id.z] rfl (by rw [hanc]; rfl) rfl ?_
        (repeat ((conv => whnf); first | (with_reducible refine Fork.mk (fun _ => ?_) (fun hc => ?_)); rotate_left; (exfalso; first | omega | (simp [eqC, cellsI, idv, idl] at hc; done) | (simp [eqC, cellsI, idv, idl] at hc; omega) | contradiction) | (with_reducible refine Fork.mk (fun hc => ?_) (fun _ => ?_)); (exfalso; first | omega | (simp [eqC, cellsI, idv, idl] at hc; done) | (simp [eqC, cellsI, idv, idl] at hc; omega) | contradiction) | (with_reducible refine Owe.mk ?_ ?_); (first | omega | (unfold most; omega) | decide +kernel | assumption | (simp [most]; done) | (simp [most]; omega)) | (with_reducible intro z hz); first | (replace hz := hz (by omega); subst hz) | subst hz)); try (conv => whnf)
        refine Fork.mk (fun _ => ?_) (fun hc => absurd (by simp [eqC]) hc)
        (repeat ((conv => whnf); first | (with_reducible refine Fork.mk (fun _ => ?_) (fun hc => ?_)); rotate_left; (exfalso; first | omega | (simp [eqC, cellsI, idv, idl] at hc; done) | (simp [eqC, cellsI, idv, idl] at hc; omega) | contradiction) | (with_reducible refine Fork.mk (fun hc => ?_) (fun _ => ?_)); (exfalso; first | omega | (simp [eqC, cellsI, idv, idl] at hc; done) | (simp [eqC, cellsI, idv, idl] at hc; omega) | contradiction) | (with_reducible refine Owe.mk ?_ ?_); (first | omega | (unfold most; omega) | decide +kernel | assumption | (simp [most]; done) | (simp [most]; omega)) | (with_reducible intro z hz); first | (replace hz := hz (by omega); subst hz) | subst hz)); try (conv => whnf)
        refine Idx.mk r.length (idv u.id) [.int .i64 u.id.x, .int .i64 u.id.y, .int .i64 u.id.z] (by omega) (by rw [List.getElem?_map, hlast]; rfl) rfl ?_
        (repeat ((conv => whnf); first | (with_reducible refine Fork.mk (fun _ => ?_) (fun hc => ?_)); rotate_left; (exfalso; first | omega | (simp [eqC, cellsI, idv, idl] at hc; done) | (simp [eqC, cellsI, idv, idl] at hc; omega) | contradiction) | (with_reducible refine Fork.mk (fun hc => ?_) (fun _ => ?_)); (exfalso; first | omega | (simp [eqC, cellsI, idv, idl] at hc; done) | (simp [eqC, cellsI, idv, idl] at hc; omega) | contradiction) | (with_reducible refine Owe.mk ?_ ?_); (first | omega | (unfold most; omega) | decide +kernel | assumption | (simp [most]; done) | (simp [most]; omega)) | (with_reducible intro z hz); first | (replace hz := hz (by omega); subst hz) | subst hz)); try (conv => whnf)
        refine Fork.mk (fun _ => ?_) (fun hc => absurd (by simp [eqC]) hc)
        (repeat ((conv => whnf); first | (with_reducible refine Fork.mk (fun _ => ?_) (fun hc => ?_)); rotate_left; (exfalso; first | omega | (simp [eqC, cellsI, idv, idl] at hc; done) | (simp [eqC, cellsI, idv, idl] at hc; omega) | contradiction) | (with_reducible refine Fork.mk (fun hc => ?_) (fun _ => ?_)); (exfalso; first | omega | (simp [eqC, cellsI, idv, idl] at hc; done) | (simp [eqC, cellsI, idv, idl] at hc; omega) | contradiction) | (with_reducible refine Owe.mk ?_ ?_); (first | omega | (unfold most; omega) | decide +kernel | assumption | (simp [most]; done) | (simp [most]; omega)) | (with_reducible intro z hz); first | (replace hz := hz (by omega); subst hz) | subst hz)); try (conv => whnf)
        refine CallV.mk _ (hC _ _ _ (PCw.of (h7))) (fun js hjs => ?_); subst hjs
        (repeat ((conv => whnf); first | (with_reducible refine Fork.mk (fun _ => ?_) (fun hc => ?_)); rotate_left; (exfalso; first | omega | (simp [eqC, cellsI, idv, idl] at hc; done) | (simp [eqC, cellsI, idv, idl] at hc; omega) | contradiction) | (with_reducible refine Fork.mk (fun hc => ?_) (fun _ => ?_)); (exfalso; first | omega | (simp [eqC, cellsI, idv, idl] at hc; done) | (simp [eqC, cellsI, idv, idl] at hc; omega) | contradiction) | (with_reducible refine Owe.mk ?_ ?_); (first | omega | (unfold most; omega) | decide +kernel | assumption | (simp [most]; done) | (simp [most]; omega)) | (with_reducible intro z hz); first | (replace hz := hz (by omega); subst hz) | subst hz)); try (conv => whnf)
        rw [hdrop]
        refine CallV.mk _ (hC _ _ _ (PCw.of (h13p))) (fun js hjs => ?_); subst hjs
        (repeat ((conv => whnf); first | (with_reducible refine Fork.mk (fun _ => ?_) (fun hc => ?_)); rotate_left; (exfalso; first | omega | (simp [eqC, cellsI, idv, idl] at hc; done) | (simp [eqC, cellsI, idv, idl] at hc; omega) | contradiction) | (with_reducible refine Fork.mk (fun hc => ?_) (fun _ => ?_)); (exfalso; first | omega | (simp [eqC, cellsI, idv, idl] at hc; done) | (simp [eqC, cellsI, idv, idl] at hc; omega) | contradiction) | (with_reducible refine Owe.mk ?_ ?_); (first | omega | (unfold most; omega) | decide +kernel | assumption | (simp [most]; done) | (simp [most]; omega)) | (with_reducible intro z hz); first | (replace hz := hz (by omega); subst hz) | subst hz)); try (conv => whnf)
        refine CallV.mk _ (hC _ _ _ (PCw.of (hak))) (fun js hjs => ?_); subst hjs
        (repeat ((conv => whnf); first | (with_reducible refine Fork.mk (fun _ => ?_) (fun hc => ?_)); rotate_left; (exfalso; first | omega | (simp [eqC, cellsI, idv, idl] at hc; done) | (simp [eqC, cellsI, idv, idl] at hc; omega) | contradiction) | (with_reducible refine Fork.mk (fun hc => ?_) (fun _ => ?_)); (exfalso; first | omega | (simp [eqC, cellsI, idv, idl] at hc; done) | (simp [eqC, cellsI, idv, idl] at hc; omega) | contradiction) | (with_reducible refine Owe.mk ?_ ?_); (first | omega | (unfold most; omega) | decide +kernel | assumption | (simp [most]; done) | (simp [most]; omega)) | (with_reducible intro z hz); first | (replace hz := hz (by omega); subst hz) | subst hz)); try (conv => whnf)
        exact hfin _ (ILes.refl _)
  · have hd := ids_nodup hv (Or.inl (by omega))
    obtain ⟨x, r0, hlin, hxi, hxa, hxok⟩ := hcore hd
    have hux := uv_eq x
    have hxi' := trip_eq hxi
    have h1 := hfnd x r0 hlin
    rw [hue, hux, show idv t = .agg [.int .i64 t.x, .int .i64 t.y, .int .i64 t.z] from rfl] at h1
    (repeat ((conv => whnf); first | (with_reducible refine Fork.mk (fun _ => ?_) (fun hc => ?_)); rotate_left; (exfalso; first | omega | (simp [eqC, cellsI, idv, idl] at hc; done) | (simp [eqC, cellsI, idv, idl] at hc; omega) | contradiction) | (with_reducible refine Fork.mk (fun hc => ?_) (fun _ => ?_)); (exfalso; first | omega | (simp [eqC, cellsI, idv, idl] at hc; done) | (simp [eqC, cellsI, idv, idl] at hc; omega) | contradiction) | (with_reducible refine Owe.mk ?_ ?_); (first | omega | (unfold most; omega) | decide +kernel | assumption | (simp [most]; done) | (simp [most]; omega)) | (with_reducible intro z hz); first | (replace hz := hz (by omega); subst hz) | subst hz)); try (conv => whnf)
    refine Idx.mk n (idv t) _ rfl (by simp [ht]) rfl ?_
    (repeat ((conv => whnf); first | (with_reducible refine Fork.mk (fun _ => ?_) (fun hc => ?_)); rotate_left; (exfalso; first | omega | (simp [eqC, cellsI, idv, idl] at hc; done) | (simp [eqC, cellsI, idv, idl] at hc; omega) | contradiction) | (with_reducible refine Fork.mk (fun hc => ?_) (fun _ => ?_)); (exfalso; first | omega | (simp [eqC, cellsI, idv, idl] at hc; done) | (simp [eqC, cellsI, idv, idl] at hc; omega) | contradiction) | (with_reducible refine Owe.mk ?_ ?_); (first | omega | (unfold most; omega) | decide +kernel | assumption | (simp [most]; done) | (simp [most]; omega)) | (with_reducible intro z hz); first | (replace hz := hz (by omega); subst hz) | subst hz)); try (conv => whnf)
    refine CallV.mk _ (hC _ _ _ (PCw.of (h1))) (fun js hjs => ?_); subst hjs
    (repeat ((conv => whnf); first | (with_reducible refine Fork.mk (fun _ => ?_) (fun hc => ?_)); rotate_left; (exfalso; first | omega | (simp [eqC, cellsI, idv, idl] at hc; done) | (simp [eqC, cellsI, idv, idl] at hc; omega) | contradiction) | (with_reducible refine Fork.mk (fun hc => ?_) (fun _ => ?_)); (exfalso; first | omega | (simp [eqC, cellsI, idv, idl] at hc; done) | (simp [eqC, cellsI, idv, idl] at hc; omega) | contradiction) | (with_reducible refine Owe.mk ?_ ?_); (first | omega | (unfold most; omega) | decide +kernel | assumption | (simp [most]; done) | (simp [most]; omega)) | (with_reducible intro z hz); first | (replace hz := hz (by omega); subst hz) | subst hz)); try (conv => whnf)
    refine Idx.mk n (idv t) _ rfl (by simp [ht]) rfl ?_
    (repeat ((conv => whnf); first | (with_reducible refine Fork.mk (fun _ => ?_) (fun hc => ?_)); rotate_left; (exfalso; first | omega | (simp [eqC, cellsI, idv, idl] at hc; done) | (simp [eqC, cellsI, idv, idl] at hc; omega) | contradiction) | (with_reducible refine Fork.mk (fun hc => ?_) (fun _ => ?_)); (exfalso; first | omega | (simp [eqC, cellsI, idv, idl] at hc; done) | (simp [eqC, cellsI, idv, idl] at hc; omega) | contradiction) | (with_reducible refine Owe.mk ?_ ?_); (first | omega | (unfold most; omega) | decide +kernel | assumption | (simp [most]; done) | (simp [most]; omega)) | (with_reducible intro z hz); first | (replace hz := hz (by omega); subst hz) | subst hz)); try (conv => whnf)
    refine CallV.mk _ (hC _ _ _ (PCw.of (h5))) (fun js hjs => ?_); subst hjs
    (repeat ((conv => whnf); first | (with_reducible refine Fork.mk (fun _ => ?_) (fun hc => ?_)); rotate_left; (exfalso; first | omega | (simp [eqC, cellsI, idv, idl] at hc; done) | (simp [eqC, cellsI, idv, idl] at hc; omega) | contradiction) | (with_reducible refine Fork.mk (fun hc => ?_) (fun _ => ?_)); (exfalso; first | omega | (simp [eqC, cellsI, idv, idl] at hc; done) | (simp [eqC, cellsI, idv, idl] at hc; omega) | contradiction) | (with_reducible refine Owe.mk ?_ ?_); (first | omega | (unfold most; omega) | decide +kernel | assumption | (simp [most]; done) | (simp [most]; omega)) | (with_reducible intro z hz); first | (replace hz := hz (by omega); subst hz) | subst hz)); try (conv => whnf)
    refine Idx.mk n (idv t) _ rfl (by simp [ht]) rfl ?_
    (repeat ((conv => whnf); first | (with_reducible refine Fork.mk (fun _ => ?_) (fun hc => ?_)); rotate_left; (exfalso; first | omega | (simp [eqC, cellsI, idv, idl] at hc; done) | (simp [eqC, cellsI, idv, idl] at hc; omega) | contradiction) | (with_reducible refine Fork.mk (fun hc => ?_) (fun _ => ?_)); (exfalso; first | omega | (simp [eqC, cellsI, idv, idl] at hc; done) | (simp [eqC, cellsI, idv, idl] at hc; omega) | contradiction) | (with_reducible refine Owe.mk ?_ ?_); (first | omega | (unfold most; omega) | decide +kernel | assumption | (simp [most]; done) | (simp [most]; omega)) | (with_reducible intro z hz); first | (replace hz := hz (by omega); subst hz) | subst hz)); try (conv => whnf)
    by_cases hn0 : n = 0
    · have hut : u.id = t := by
        rw [hn0, ids_eq, List.getElem?_cons_zero] at ht
        exact Option.some.inj ht
      have h3 := parent_pc t u (by omega)
      rw [par_self hut, hue, show idv t = .agg [.int .i64 t.x, .int .i64 t.y, .int .i64 t.z] from rfl, show idv (Trip.zero, (-1 : Int), false).1 = .agg [.int .i64 0, .int .i64 0, .int .i64 0] from rfl] at h3
      have h13 := anc_pc t u (by omega)
      rw [anc_self hut, hue, show idv t = .agg [.int .i64 t.x, .int .i64 t.y, .int .i64 t.z] from rfl] at h13
      have hl0 : (([] : List Trip).map idv).length = 0 := rfl
      refine CallV.mk _ (hC _ _ _ (PCw.of (h3))) (fun js hjs => ?_); subst hjs
      (repeat ((conv => whnf); first | (with_reducible refine Fork.mk (fun _ => ?_) (fun hc => ?_)); rotate_left; (exfalso; first | omega | (simp [eqC, cellsI, idv, idl] at hc; done) | (simp [eqC, cellsI, idv, idl] at hc; omega) | contradiction) | (with_reducible refine Fork.mk (fun hc => ?_) (fun _ => ?_)); (exfalso; first | omega | (simp [eqC, cellsI, idv, idl] at hc; done) | (simp [eqC, cellsI, idv, idl] at hc; omega) | contradiction) | (with_reducible refine Owe.mk ?_ ?_); (first | omega | (unfold most; omega) | decide +kernel | assumption | (simp [most]; done) | (simp [most]; omega)) | (with_reducible intro z hz); first | (replace hz := hz (by omega); subst hz) | subst hz)); try (conv => whnf)
      refine Idx.mk n (idv t) _ rfl (by simp [ht]) rfl ?_
      (repeat ((conv => whnf); first | (with_reducible refine Fork.mk (fun _ => ?_) (fun hc => ?_)); rotate_left; (exfalso; first | omega | (simp [eqC, cellsI, idv, idl] at hc; done) | (simp [eqC, cellsI, idv, idl] at hc; omega) | contradiction) | (with_reducible refine Fork.mk (fun hc => ?_) (fun _ => ?_)); (exfalso; first | omega | (simp [eqC, cellsI, idv, idl] at hc; done) | (simp [eqC, cellsI, idv, idl] at hc; omega) | contradiction) | (with_reducible refine Owe.mk ?_ ?_); (first | omega | (unfold most; omega) | decide +kernel | assumption | (simp [most]; done) | (simp [most]; omega)) | (with_reducible intro z hz); first | (replace hz := hz (by omega); subst hz) | subst hz)); try (conv => whnf)
      refine CallV.mk _ (hC _ _ _ (PCw.of (h13))) (fun js hjs => ?_); subst hjs
      (repeat ((conv => whnf); first | (with_reducible refine Fork.mk (fun _ => ?_) (fun hc => ?_)); rotate_left; (exfalso; first | omega | (simp [eqC, cellsI, idv, idl] at hc; done) | (simp [eqC, cellsI, idv, idl] at hc; omega) | contradiction) | (with_reducible refine Fork.mk (fun hc => ?_) (fun _ => ?_)); (exfalso; first | omega | (simp [eqC, cellsI, idv, idl] at hc; done) | (simp [eqC, cellsI, idv, idl] at hc; omega) | contradiction) | (with_reducible refine Owe.mk ?_ ?_); (first | omega | (unfold most; omega) | decide +kernel | assumption | (simp [most]; done) | (simp [most]; omega)) | (with_reducible intro z hz); first | (replace hz := hz (by omega); subst hz) | subst hz)); try (conv => whnf)
      exact hfin _ (ILes.refl _)
    · exfalso
      rw [uids_len] at hnl
      omega
end Go.Proofs.YtcacnelhppakoaaDoor.Pu

namespace Go.Proofs.YtcacnelhppakoaaDoor
open Go Go.Pv Go.RowKit
theorem lawPaths {w : World} (u : Ut) (v : Value) (hV : UtV w u v) (hb : u.count ≤ 1048576) (z : Int) (hTab : Tab w ∧ TabN w ∧ TabK w) :
    Calls Tryd.prog 6 #[v, .int .i64 z] w fun e w' => e = .returned (.bool true) ∧ Below w.heap.size w w' := by
  have h := (Pu.paths_pc u (ut_ok' hV) hb z).2 (fun b => b < w.heap.size) w [v, .int .i64 z] (fun _ h => h) (fun _ _ h => by cases h) hTab ?_
  · refine h.mono ?_
    rintro e w' ⟨x, Q', rfl, hb, _, _, hr⟩
    refine ⟨?_, hb⟩
    unfold RepRes RepI at hr
    rw [hr]
  · obtain ⟨vs, rfl, hC⟩ := hV
    exact ⟨_, _, rfl, Pu.of_utc (fun _ h => h) u vs hC, _, _, rfl, rfl, rfl⟩
end Go.Proofs.YtcacnelhppakoaaDoor
