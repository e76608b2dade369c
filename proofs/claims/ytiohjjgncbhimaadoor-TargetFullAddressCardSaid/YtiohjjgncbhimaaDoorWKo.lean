/-
  The law of TargetFullAddress.
-/
import Derived.Test.YtiohjjgncbhimaaDoorWKm
import Derived.Test.YtiohjjgncbhimaaDoorWAop
import Derived.Test.YtiohjjgncbhimaaDoorWKn
namespace Go.Proofs.YtiohjjgncbhimaaDoor.Pk
open Go Go.Pv Go.RowKit Go.Proofs.YtiohjjgncbhimaaDoor.Pu Go.Proofs.YtiohjjgncbhimaaDoor.Pa Go.Proofs.YtiohjjgncbhimaaDoor.Pb
set_option linter.unusedSimpArgs false
open Lab Lcs Go.Proofs.YtiohjjgncbhimaaDoor
set_option maxRecDepth 10000
set_option maxHeartbeats 16000000
theorem one_way {t : Trip} {u : Ut} (hv : validB u = true) (hl : linL t u ≠ []) : oneA u (wayA t u) = (t, 0) := by
 unfold oneA
 rw [(uniq_facts hv hl).1]
theorem ins_way {t : Trip} {u : Ut} {z : Int} (hv : validB u = true) (hl : linL t u ≠ []) (hz : 0 ≤ z ∧ z ≤ 3) : insA u (wayA t u) z = whereF u z t := by
 rw [ins_where]
 unfold whereA
 rw [if_pos hz, one_way hv hl, if_pos rfl]
theorem way_short {t : Trip} {u : Ut} (hM : Tame u) (hl : linL t u ≠ []) : ∀ s ∈ wayA t u, shortS s := by
 intro s hs
 obtain ⟨r, hr, hch, _⟩ := way_facts hl
 rw [hr] at hs
 rcases List.mem_cons.1 hs with rfl | hs
 · unfold shortS bookS
   exact Nat.zero_le _
 · obtain ⟨x, hx, rfl⟩ := List.mem_map.1 hs
   exact (hM.2 x (chain_in hch x (List.mem_cons_of_mem _ hx))).1
theorem lawFull (u : Ut) (hok : okU u) : PC Tryd.prog envU 6 [uv u] [.bool true] := by
 have hA := awake_pc
 have hK := book_pc u hok
 have hue := uv_eq u
 cases hb : bookL u
 · rw [hb] at hK
   rw [hue] at hK ⊢
   refine PC.of_va (T := tb0) eqs2_ok tb_ok rfl mixed Tryd.func6 rfl rfl (Nat.le_of_ble_eq_true rfl) ?_; intro Γ C WK LP fin h0 hW hC hB hR hLP hfin
   (try (conv => whnf)); (repeat ((first | refine qT ?_ | refine qF ?_ | refine qO ?_ | (with_reducible intro z hz); (first | (replace hz := hz (by omega); subst hz) | subst hz) | (refine CallV.mk _ (hC _ _ _ (PCw.of hA)) (fun js hjs => ?_); subst hjs) | (refine CallV.mk _ (hC _ _ _ (PCw.of hK)) (fun js hjs => ?_); subst hjs)); (try (conv => whnf))))
   exact hfin _ (ILes.refl _)
 rw [hb] at hK
 obtain ⟨hc, hM, hs, hst⟩ := bookL_facts hb
 have hv : validB u = true := by unfold standsR at hst; rw [Bool.and_eq_true] at hst; exact hst.1
 have hAll := (all_pcr u.count u (Nat.le_refl _) (by omega)).pc
 have hil : u.ids.length = u.count := by unfold Ut.ids; rw [List.length_map, all_length]
 have hml : (u.ids.map idv).length = u.ids.length := List.length_map _
 rw [hue] at hK hAll ⊢
 refine PC.of_va (T := tb0) eqs2_ok tb_ok rfl mixed Tryd.func6 rfl rfl (Nat.le_of_ble_eq_true rfl) ?_; intro Γ C WK LP fin h0 hW hC hB hR hLP hfin
 (try (conv => whnf)); (repeat ((first | refine qT ?_ | refine qF ?_ | refine qO ?_ | (with_reducible intro z hz); (first | (replace hz := hz (by omega); subst hz) | subst hz) | (refine CallV.mk _ (hC _ _ _ (PCw.of hA)) (fun js hjs => ?_); subst hjs) | (refine CallV.mk _ (hC _ _ _ (PCw.of hK)) (fun js hjs => ?_); subst hjs) | (refine CallV.mk _ (hC _ _ _ (PCw.of hAll)) (fun js hjs => ?_); subst hjs)); (try (conv => whnf))))
 refine hLP _ _ _ Nat (fun k => ⟨[(1, .ptr 0 1 0), (3, .imm (.sl 3 (u.ids.map idv))), (4, .imm (.int .i64 (k : Nat)))], [.box 1 [.imm (.int .i64 u.id.x), .imm (.int .i64 u.id.y), .imm (.int .i64 u.id.z), .imm (.int .i64 u.kind), .imm (.str u.label), .imm (.sl 4 (u.head.map wdv)), .imm (.sl 4 (u.words.map wdv)), .imm (.sl 8 (u.kids.map uv))]]⟩) (fun k => k ≤ u.ids.length) (fun k => u.ids.length - k) 0 (Nat.zero_le _) (qSL 1 rfl rfl) ?_
 intro k hk
 have hho := Nat.lt_or_ge k u.ids.length
 cases hho with
 | inl hlt =>
   obtain ⟨t, ht⟩ : ∃ t, u.ids[k]? = some t := ⟨u.ids[k], List.getElem?_eq_getElem hlt⟩
   have htm := List.mem_of_getElem? ht
   obtain ⟨y, hy, hyt⟩ := List.mem_map.1 htm
   have hl : linL t u ≠ [] := by rw [← hyt]; exact lin_ne u y hy
   have hWh := whole_pc t u (by omega) hl
   have hsh := way_short hM hl
   have hF := rfind_pc t u.count u (Nat.le_refl _) (by omega)
   have hP := rparent_pc t u.count u (Nat.le_refl _) (by omega)
   have h0 := ins_pc u (wayA t u) 0 (by omega) hs hsh
   have h1 := ins_pc u (wayA t u) 1 (by omega) hs hsh
   have h2 := ins_pc u (wayA t u) 2 (by omega) hs hsh
   have h3 := ins_pc u (wayA t u) 3 (by omega) hs hsh
   rw [ins_way hv hl (by decide)] at h0 h1 h2 h3
   unfold whereF at h0 h1 h2 h3
   rw [if_pos rfl] at h0
   rw [if_neg (by decide), if_pos rfl] at h1
   rw [if_neg (by decide), if_neg (by decide)] at h2 h3
   have hpo := par_ok hl
   have hpb := par_bound (t := t) (u := u)
   have hiT := id_eq (rfl : t = t)
   generalize wayA t u = p at hWh h0 h1 h2 h3
   generalize findU t u = x at hF h1
   generalize foundB t u = b0 at hF
   have hxm : (x.kids.map uv).length = x.kids.length := List.length_map _
   rw [uv_eq x] at hF
   by_cases hr : t = u.id
   · rw [if_pos hr] at h2 h3
     rw [decide_eq_true hr] at hpo
     generalize parV t u = q at hP hpo hpb
     obtain ⟨q1, q2, q3⟩ := q
     dsimp only at hP hpo hpb
     subst hpo
     unfold out3 at h0 h1 h2 h3
     dsimp only at h0 h1 h2 h3
     rw [hue] at hWh hF hP h0 h1 h2 h3
     unfold idv idl at hWh hF hP h0 h1 h2 h3
     (try (conv => whnf)); (repeat ((first | refine qT ?_ | refine qF ?_ | refine qO ?_ | (with_reducible intro z hz); (first | (replace hz := hz (by omega); subst hz) | subst hz)); (try (conv => whnf))))
     refine Idx.mk k (idv t) _ rfl (by simp [ht]) rfl ?_
     (try (conv => whnf)); (repeat ((first | refine qT ?_ | refine qF ?_ | refine qO ?_ | (with_reducible intro z hz); (first | (replace hz := hz (by omega); subst hz) | subst hz) | (refine CallV.mk _ (hC _ _ _ (PCw.of hWh)) (fun js hjs => ?_); subst hjs)); (try (conv => whnf))))
     refine Idx.mk k (idv t) _ rfl (by simp [ht]) rfl ?_
     (try (conv => whnf)); (repeat ((first | refine qT ?_ | refine qF ?_ | refine qO ?_ | (with_reducible intro z hz); (first | (replace hz := hz (by omega); subst hz) | subst hz) | (refine CallV.mk _ (hC _ _ _ (PCw.of hF)) (fun js hjs => ?_); subst hjs) | (refine CallV.mk _ (hC _ _ _ (PCw.of h0)) (fun js hjs => ?_); subst hjs) | (refine CallV.mk _ (hC _ _ _ (PCw.of h1)) (fun js hjs => ?_); subst hjs)); (try (conv => whnf))))
     refine Idx.mk k (idv t) _ rfl (by simp [ht]) rfl ?_
     (try (conv => whnf)); (repeat ((first | refine qT ?_ | refine qF ?_ | refine qO ?_ | (with_reducible intro z hz); (first | (replace hz := hz (by omega); subst hz) | subst hz)); (try (conv => whnf))))
     refine Idx.mk k (idv t) _ rfl (by simp [ht]) rfl ?_
     (try (conv => whnf)); (repeat ((first | refine qT ?_ | refine qF ?_ | refine qO ?_ | (with_reducible intro z hz); (first | (replace hz := hz (by omega); subst hz) | subst hz)); (try (conv => whnf))))
     refine Idx.mk k (idv t) _ rfl (by simp [ht]) rfl ?_
     (try (conv => whnf)); (repeat ((first | refine qT ?_ | refine qF ?_ | refine qO ?_ | (with_reducible intro z hz); (first | (replace hz := hz (by omega); subst hz) | subst hz) | (refine CallV.mk _ (hC _ _ _ (PCw.of hP)) (fun js hjs => ?_); subst hjs) | (refine CallV.mk _ (hC _ _ _ (PCw.of h3)) (fun js hjs => ?_); subst hjs) | (refine CallV.mk _ (hC _ _ _ (PCw.of h2)) (fun js hjs => ?_); subst hjs)); (try (conv => whnf))))
     exact ⟨k + 1, by omega, by dsimp only; omega, (qSL 1 rfl rfl)⟩
   · rw [if_neg hr, if_pos rfl] at h2
     rw [if_neg hr, if_neg (by decide), Int.add_zero] at h3
     rw [decide_eq_false hr] at hpo
     generalize parV t u = q at hP hpo hpb h2 h3
     obtain ⟨q1, q2, q3⟩ := q
     dsimp only at hP hpo hpb h2 h3
     subst hpo
     have hiQ := id_eq (rfl : q1 = q1)
     unfold out3 at h0 h1 h2 h3
     dsimp only at h0 h1 h2 h3
     rw [hue] at hWh hF hP h0 h1 h2 h3
     unfold idv idl at hWh hF hP h0 h1 h2 h3
     (try (conv => whnf)); (repeat ((first | refine qT ?_ | refine qF ?_ | refine qO ?_ | (with_reducible intro z hz); (first | (replace hz := hz (by omega); subst hz) | subst hz)); (try (conv => whnf))))
     refine Idx.mk k (idv t) _ rfl (by simp [ht]) rfl ?_
     (try (conv => whnf)); (repeat ((first | refine qT ?_ | refine qF ?_ | refine qO ?_ | (with_reducible intro z hz); (first | (replace hz := hz (by omega); subst hz) | subst hz) | (refine CallV.mk _ (hC _ _ _ (PCw.of hWh)) (fun js hjs => ?_); subst hjs)); (try (conv => whnf))))
     refine Idx.mk k (idv t) _ rfl (by simp [ht]) rfl ?_
     (try (conv => whnf)); (repeat ((first | refine qT ?_ | refine qF ?_ | refine qO ?_ | (with_reducible intro z hz); (first | (replace hz := hz (by omega); subst hz) | subst hz) | (refine CallV.mk _ (hC _ _ _ (PCw.of hF)) (fun js hjs => ?_); subst hjs) | (refine CallV.mk _ (hC _ _ _ (PCw.of h0)) (fun js hjs => ?_); subst hjs) | (refine CallV.mk _ (hC _ _ _ (PCw.of h1)) (fun js hjs => ?_); subst hjs)); (try (conv => whnf))))
     refine Idx.mk k (idv t) _ rfl (by simp [ht]) rfl ?_
     (try (conv => whnf)); (repeat ((first | refine qT ?_ | refine qF ?_ | refine qO ?_ | (with_reducible intro z hz); (first | (replace hz := hz (by omega); subst hz) | subst hz)); (try (conv => whnf))))
     refine Idx.mk k (idv t) _ rfl (by simp [ht]) rfl ?_
     (try (conv => whnf)); (repeat ((first | refine qT ?_ | refine qF ?_ | refine qO ?_ | (with_reducible intro z hz); (first | (replace hz := hz (by omega); subst hz) | subst hz)); (try (conv => whnf))))
     refine Idx.mk k (idv t) _ rfl (by simp [ht]) rfl ?_
     (try (conv => whnf)); (repeat ((first | refine qT ?_ | refine qF ?_ | refine qO ?_ | (with_reducible intro z hz); (first | (replace hz := hz (by omega); subst hz) | subst hz) | (refine CallV.mk _ (hC _ _ _ (PCw.of hP)) (fun js hjs => ?_); subst hjs) | (refine CallV.mk _ (hC _ _ _ (PCw.of h3)) (fun js hjs => ?_); subst hjs) | (refine CallV.mk _ (hC _ _ _ (PCw.of h2)) (fun js hjs => ?_); subst hjs)); (try (conv => whnf))))
     exact ⟨k + 1, by omega, by dsimp only; omega, (qSL 1 rfl rfl)⟩
 | inr hge =>
   (try (conv => whnf)); (repeat ((first | refine qT ?_ | refine qF ?_ | refine qO ?_ | (with_reducible intro z hz); (first | (replace hz := hz (by omega); subst hz) | subst hz)); (try (conv => whnf))))
   exact hfin _ (ILes.refl _)
end Go.Proofs.YtiohjjgncbhimaaDoor.Pk
