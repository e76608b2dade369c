/-
  Move: its error, what it makes. TreeeditMoveInverse. TreeeditMoveInverse, for arguments that came in.
-/
import Derived.Test.YtmnbobcgjnickaaDoorT2
import Derived.Test.YtmnbobcgjnickaaDoorT1
namespace Go.Proofs.YtmnbobcgjnickaaDoor.Pt
open Go Go.Pv Go.RowKit
set_option linter.unusedSimpArgs false
open Lab Lcs Go.Proofs.YtmnbobcgjnickaaDoor Go.Proofs.YtmnbobcgjnickaaDoor.Pu
set_option maxRecDepth 10000
set_option maxHeartbeats 16000000
def movE (u : Ut) (id p : Trip) (z : Int) : Int := if editB u = false then 1 else if id ∉ u.ids then 4 else if p ∉ u.ids then 4 else if id = u.id then 9 else if p ∈ (findU id u).ids then 9 else placeE (dropU id u) p z (findU id u)
theorem pe_pc (u x : Ut) (p : Trip) (z : Int) (hM : Tame u) (hc : u.count ≤ 10000) (hx : x.count ≤ 10000) : PC Tryd.prog env0 28 [uv u, idv p, .int .i64 z, uv x] [.int .i64 (placeE u p z x)] :=
 placeError_pc u p z x (small_tame hM) (by omega) (by omega) (by have := depth_count x; omega) (by have := find_kids p u; omega) (by have := anc_le p u; omega)
theorem move_no_pc (u : Ut) (id p : Trip) (z : Int) (hok : okU u) (hM : Tame u) (hc : u.count ≤ 1024) (hne : movE u id p z ≠ 0) : PC Tryd.prog env0 14 [uv u, idv id, idv p, .int .i64 z] [uv zeroU, .int .i64 (movE u id p z)] := by
 have hEd := editable_pc u hok hM (by omega)
 have hH1 := has_pc u id (by omega)
 have hH2 := has_pc u p (by omega)
 have hue := uv_eq u
 rw [edit_stands] at hEd
 unfold movE at hne ⊢
 rw [edit_stands] at hne ⊢
 by_cases h1 : standsB u = false
 · rw [if_pos h1]
   rw [h1] at hEd
   rw [hue] at hEd ⊢
   refine PC.of_va (T := tb0) eqs_ok tb_ok rfl mixed Tryd.func14 rfl rfl (Nat.le_of_ble_eq_true rfl) ?_; intro Γ C WK LP fin h0 hW hC hB hR hLP hfin
   (try (conv => whnf)); (repeat ((first | refine qT ?_ | refine qF ?_ | refine qO ?_ | (with_reducible intro z hz); (first | (replace hz := hz (by omega); subst hz) | subst hz) | (refine CallV.mk _ (hC _ _ _ (PCw.of hEd)) (fun js hjs => ?_); subst hjs)); (try (conv => whnf))))
   refine hfin _ ?_
   exact .cons zero_le (.refl _)
 rw [if_neg h1] at hne ⊢
 rw [Bool.not_eq_false] at h1
 rw [h1] at hEd
 by_cases h2 : id ∈ u.ids
 rotate_left
 · rw [if_pos h2]
   rw [decide_eq_false h2] at hH1
   rw [hue] at hEd hH1 ⊢
   refine PC.of_va (T := tb0) eqs_ok tb_ok rfl mixed Tryd.func14 rfl rfl (Nat.le_of_ble_eq_true rfl) ?_; intro Γ C WK LP fin h0 hW hC hB hR hLP hfin
   (try (conv => whnf)); (repeat ((first | refine qT ?_ | refine qF ?_ | refine qO ?_ | (with_reducible intro z hz); (first | (replace hz := hz (by omega); subst hz) | subst hz) | (refine CallV.mk _ (hC _ _ _ (PCw.of hEd)) (fun js hjs => ?_); subst hjs) | (refine CallV.mk _ (hC _ _ _ (PCw.of hH1)) (fun js hjs => ?_); subst hjs)); (try (conv => whnf))))
   refine hfin _ ?_
   exact .cons zero_le (.refl _)
 rw [if_neg (fun e => e h2)] at hne ⊢
 rw [decide_eq_true h2] at hH1
 by_cases h3 : p ∈ u.ids
 rotate_left
 · rw [if_pos h3]
   rw [decide_eq_false h3] at hH2
   rw [hue] at hEd hH1 hH2 ⊢
   refine PC.of_va (T := tb0) eqs_ok tb_ok rfl mixed Tryd.func14 rfl rfl (Nat.le_of_ble_eq_true rfl) ?_; intro Γ C WK LP fin h0 hW hC hB hR hLP hfin
   (try (conv => whnf)); (repeat ((first | refine qT ?_ | refine qF ?_ | refine qO ?_ | (with_reducible intro z hz); (first | (replace hz := hz (by omega); subst hz) | subst hz) | (refine CallV.mk _ (hC _ _ _ (PCw.of hEd)) (fun js hjs => ?_); subst hjs) | (refine CallV.mk _ (hC _ _ _ (PCw.of hH1)) (fun js hjs => ?_); subst hjs) | (refine CallV.mk _ (hC _ _ _ (PCw.of hH2)) (fun js hjs => ?_); subst hjs)); (try (conv => whnf))))
   refine hfin _ ?_
   exact .cons zero_le (.refl _)
 rw [if_neg (fun e => e h3)] at hne ⊢
 rw [decide_eq_true h3] at hH2
 by_cases h4 : id = u.id
 · have hi := id_eq h4
   rw [if_pos h4]
   rw [hue] at hEd hH1 hH2 ⊢
   refine PC.of_va (T := tb0) eqs_ok tb_ok rfl mixed Tryd.func14 rfl rfl (Nat.le_of_ble_eq_true rfl) ?_; intro Γ C WK LP fin h0 hW hC hB hR hLP hfin
   (try (conv => whnf)); (repeat ((first | refine qT ?_ | refine qF ?_ | refine qO ?_ | (with_reducible intro z hz); (first | (replace hz := hz (by omega); subst hz) | subst hz) | (refine CallV.mk _ (hC _ _ _ (PCw.of hEd)) (fun js hjs => ?_); subst hjs) | (refine CallV.mk _ (hC _ _ _ (PCw.of hH1)) (fun js hjs => ?_); subst hjs) | (refine CallV.mk _ (hC _ _ _ (PCw.of hH2)) (fun js hjs => ?_); subst hjs)); (try (conv => whnf))))
   refine hfin _ ?_
   exact .cons zero_le (.refl _)
 have hi := id_ne h4
 rw [if_neg h4] at hne ⊢
 obtain ⟨y, q, j, c⟩ := cut_all u id hok hM hc h1 h2 h4
 have hCu := c.cut
 have hcc := c.count
 have hH3 := has_pc y p (by omega)
 have hPl := pe_pc (dropU id u) y p z c.tame (by omega) (by omega)
 rw [c.find] at hne ⊢
 generalize dropU id u = rest at hCu hPl hne ⊢
 rw [uv_eq rest, uv_eq y] at hCu hPl
 rw [uv_eq y] at hH3
 by_cases h5 : p ∈ y.ids
 · rw [if_pos h5]
   rw [decide_eq_true h5] at hH3
   rw [hue] at hEd hH1 hH2 hCu ⊢
   refine PC.of_va (T := tb0) eqs_ok tb_ok rfl mixed Tryd.func14 rfl rfl (Nat.le_of_ble_eq_true rfl) ?_; intro Γ C WK LP fin h0 hW hC hB hR hLP hfin
   (try (conv => whnf)); (repeat ((first | refine qT ?_ | refine qF ?_ | refine qO ?_ | (with_reducible intro z hz); (first | (replace hz := hz (by omega); subst hz) | subst hz) | (refine CallV.mk _ (hC _ _ _ (PCw.of hEd)) (fun js hjs => ?_); subst hjs) | (refine CallV.mk _ (hC _ _ _ (PCw.of hH1)) (fun js hjs => ?_); subst hjs) | (refine CallV.mk _ (hC _ _ _ (PCw.of hH2)) (fun js hjs => ?_); subst hjs) | (refine CallV.mk _ (hC _ _ _ (PCw.of hCu)) (fun js hjs => ?_); subst hjs) | (refine CallV.mk _ (hC _ _ _ (PCw.of hH3)) (fun js hjs => ?_); subst hjs)); (try (conv => whnf))))
   refine hfin _ ?_
   exact .cons zero_le (.refl _)
 rw [if_neg h5] at hne ⊢
 rw [decide_eq_false h5] at hH3
 generalize placeE rest p z y = e at hPl hne ⊢
 rw [hue] at hEd hH1 hH2 hCu ⊢
 refine PC.of_va (T := tb0) eqs_ok tb_ok rfl mixed Tryd.func14 rfl rfl (Nat.le_of_ble_eq_true rfl) ?_; intro Γ C WK LP fin h0 hW hC hB hR hLP hfin
 (try (conv => whnf)); (repeat ((first | refine qT ?_ | refine qF ?_ | refine qO ?_ | (with_reducible intro z hz); (first | (replace hz := hz (by omega); subst hz) | subst hz) | (refine CallV.mk _ (hC _ _ _ (PCw.of hEd)) (fun js hjs => ?_); subst hjs) | (refine CallV.mk _ (hC _ _ _ (PCw.of hH1)) (fun js hjs => ?_); subst hjs) | (refine CallV.mk _ (hC _ _ _ (PCw.of hH2)) (fun js hjs => ?_); subst hjs) | (refine CallV.mk _ (hC _ _ _ (PCw.of hCu)) (fun js hjs => ?_); subst hjs) | (refine CallV.mk _ (hC _ _ _ (PCw.of hH3)) (fun js hjs => ?_); subst hjs) | (refine CallV.mk _ (hC _ _ _ (PCw.of hPl)) (fun js hjs => ?_); subst hjs)); (try (conv => whnf))))
 refine hfin _ ?_
 exact .cons zero_le (.refl _)
theorem mov_facts {u : Ut} {id p : Trip} {z : Int} (h : movE u id p z = 0) : standsB u = true ∧ id ∈ u.ids ∧ p ∈ u.ids ∧ id ≠ u.id ∧ p ∉ (findU id u).ids ∧ placeE (dropU id u) p z (findU id u) = 0 := by
 unfold movE at h
 rw [edit_stands] at h
 by_cases h1 : standsB u = false
 · rw [if_pos h1] at h; cases h
 rw [if_neg h1] at h
 by_cases h2 : id ∈ u.ids
 rotate_left
 · rw [if_pos h2] at h; cases h
 rw [if_neg (fun e => e h2)] at h
 by_cases h3 : p ∈ u.ids
 rotate_left
 · rw [if_pos h3] at h; cases h
 rw [if_neg (fun e => e h3)] at h
 by_cases h4 : id = u.id
 · rw [if_pos h4] at h; cases h
 rw [if_neg h4] at h
 by_cases h5 : p ∈ (findU id u).ids
 · rw [if_pos h5] at h; cases h
 rw [if_neg h5] at h
 exact ⟨by simpa using h1, h2, h3, h4, h5, h⟩
theorem Cut.insE {u y q : Ut} {id p : Trip} {k : Nat} {z : Int} (c : Cut u id y q k) (h : placeE (dropU id u) p z y = 0) : insE (dropU id u) p z y = 0 := by
 unfold Pt.insE
 rw [edit_stands, edit_stands, c.stands, c.stands2, if_neg (by decide), if_neg (by decide), if_neg c.kind, if_neg (fun e => e h), if_neg]
 intro e
 obtain ⟨t, ht, he⟩ := List.any_eq_true.1 e
 simp only [decide_eq_true_eq] at he
 exact c.apart t he ht
theorem placeE_of {u x : Ut} {p : Trip} {z : Int} (h : insE u p z x = 0) : placeE u p z x = 0 := by
 unfold insE at h
 by_cases h1 : editB u = false
 · rw [if_pos h1] at h; cases h
 rw [if_neg h1] at h
 by_cases h2 : editB x = false
 · rw [if_pos h2] at h; cases h
 rw [if_neg h2] at h
 by_cases h3 : x.kind = 0
 · rw [if_pos h3] at h; cases h
 rw [if_neg h3] at h
 by_cases h4 : placeE u p z x = 0
 · exact h4
 · rw [if_pos h4] at h
   exact h
theorem move_steps (u rest y v : Ut) (id p : Trip) (j : Nat) (hok : okU u) (hM : Tame u) (hc : u.count ≤ 1024) (hcy : y.count ≤ 1024) (hcr : rest.count ≤ 1024) (hMr : Tame rest) (h1 : standsB u = true) (h2 : id ∈ u.ids) (h3 : p ∈ u.ids) (h4 : id ≠ u.id) (h5 : p ∉ y.ids) (h6 : placeE rest p (j : Int) y = 0)
   (hCu : PC Tryd.prog env0 19 [uv u, idv id] [uv rest, uv y]) (hWk : PC Tryd.prog env0 25 [uv rest, idv p, .int .i64 (j : Nat), uv y] [uv v]) : PC Tryd.prog env0 14 [uv u, idv id, idv p, .int .i64 (j : Nat)] [uv v, .int .i64 0] := by
 have hEd := editable_pc u hok hM (by omega)
 have hH1 := has_pc u id (by omega)
 have hH2 := has_pc u p (by omega)
 have hH3 := has_pc y p (by omega)
 have hPl := pe_pc rest y p j hMr (by omega) (by omega)
 have hue := uv_eq u
 have hi := id_ne h4
 rw [edit_stands, h1] at hEd
 rw [decide_eq_true h2] at hH1
 rw [decide_eq_true h3] at hH2
 rw [decide_eq_false h5] at hH3
 rw [h6] at hPl
 rw [uv_eq rest, uv_eq y] at hCu hPl hWk
 rw [uv_eq y] at hH3
 rw [uv_eq v] at hWk ⊢
 rw [hue] at hEd hH1 hH2 hCu ⊢
 refine PC.of_va (T := tb0) eqs_ok tb_ok rfl mixed Tryd.func14 rfl rfl (Nat.le_of_ble_eq_true rfl) ?_; intro Γ C WK LP fin h0 hW hC hB hR hLP hfin
 (try (conv => whnf)); (repeat ((first | refine qT ?_ | refine qF ?_ | refine qO ?_ | (with_reducible intro z hz); (first | (replace hz := hz (by omega); subst hz) | subst hz) | (refine CallV.mk _ (hC _ _ _ (PCw.of hEd)) (fun js hjs => ?_); subst hjs) | (refine CallV.mk _ (hC _ _ _ (PCw.of hH1)) (fun js hjs => ?_); subst hjs) | (refine CallV.mk _ (hC _ _ _ (PCw.of hH2)) (fun js hjs => ?_); subst hjs) | (refine CallV.mk _ (hC _ _ _ (PCw.of hCu)) (fun js hjs => ?_); subst hjs) | (refine CallV.mk _ (hC _ _ _ (PCw.of hH3)) (fun js hjs => ?_); subst hjs) | (refine CallV.mk _ (hC _ _ _ (PCw.of hPl)) (fun js hjs => ?_); subst hjs) | (refine CallV.mk _ (hC _ _ _ (PCw.of hWk)) (fun js hjs => ?_); subst hjs)); (try (conv => whnf))))
 exact hfin _ (ILes.refl _)
theorem move_ok_pc (u : Ut) (id p : Trip) (z : Int) (hok : okU u) (hM : Tame u) (hc : u.count ≤ 1024) (h : movE u id p z = 0) : ∃ (y q q2 : Ut) (k j : Nat) (r : List Ut), Cut u id y q k ∧ z = (j : Int) ∧ Made (dropU id u) y p q2 r j ∧ PC Tryd.prog env0 14 [uv u, idv id, idv p, .int .i64 z] [uv (putAt p (insAt j y) (dropU id u)), .int .i64 0] := by
 obtain ⟨h1, h2, h3, h4, h5, h6⟩ := mov_facts h
 obtain ⟨y, q, k, c⟩ := cut_all u id hok hM hc h1 h2 h4
 rw [c.find] at h5 h6
 have hcc := c.count
 obtain ⟨q2, r, j, rfl, m⟩ := ins_made (dropU id u) y p z c.ok c.tame c.ok2 c.tame2 (by omega) (by omega) (c.insE h6)
 exact ⟨y, q, q2, k, j, r, c, rfl, m, move_steps u (dropU id u) y _ id p j hok hM hc (by omega) (by omega) c.tame h1 h2 h3 h4 h5 h6 c.cut m.kid⟩
theorem par_one : ∀ (n : Nat) {v a b x : Ut} {i k : Nat}, v.count ≤ n → v.ids.Nodup → a ∈ v.all → b ∈ v.all → a.kids[i]? = some x → b.kids[k]? = some x → a = b
 | 0, v, _, _, _, _, _, hn, _, _, _, _, _ => by have := count_pos v; omega
 | n + 1, v, a, b, x, i, k, hn, hnd, ha, hb, hi, hk => by
   have hka : ((Ut.alls v.kids).map Ut.id).Nodup := by
     rw [ids_eq] at hnd
     exact (List.nodup_cons.1 hnd).2
   have hin : ∀ (w : Ut) (m : Nat), w.kids[m]? = some x → x ∈ w.all := fun w m hm => kid_in (List.mem_of_getElem? hm) x (self_all x)
   have side : ∀ (w : Ut) (m l : Nat), w ∈ Ut.alls v.kids → w.kids[m]? = some x → v.kids[l]? = some x → False := by
     intro w m l hw hm hl
     obtain ⟨c, hc, hwc⟩ := mem_alls.1 hw
     obtain ⟨t, ht⟩ := List.getElem?_of_mem hc
     have hxc : x ∈ c.all := all_trans c.count c w (Nat.le_refl _) hwc x (hin w m hm)
     by_cases e : l = t
     · subst e
       have e2 : c = x := by rw [ht] at hl; exact Option.some.inj hl
       subst e2
       have g1 := kid_count (List.mem_of_getElem? hm)
       have g2 := all_count hwc
       omega
     · exact nodup_apart hka hl ht e x (self_all x) x hxc rfl
   rw [Ut.all_eq] at ha hb
   rcases List.mem_cons.1 ha with rfl | ha
   · rcases List.mem_cons.1 hb with rfl | hb
     · rfl
     · exact (side b k i hb hk hi).elim
   · rcases List.mem_cons.1 hb with rfl | hb
     · exact (side a i k ha hi hk).elim
     · obtain ⟨c, hc, hac⟩ := mem_alls.1 ha
       obtain ⟨d, hd, hbd⟩ := mem_alls.1 hb
       obtain ⟨s, hs⟩ := List.getElem?_of_mem hc
       obtain ⟨t, ht⟩ := List.getElem?_of_mem hd
       by_cases e : s = t
       · subst e
         have e2 : c = d := by rw [hs] at ht; exact Option.some.inj ht
         subst e2
         exact par_one n (by have := kid_count hc; omega) (nodup_kid hnd hc) hac hbd hi hk
       · exact (nodup_apart hka hs ht e x (all_trans c.count c a (Nat.le_refl _) hac x (hin a i hi)) x (all_trans d.count d b (Nat.le_refl _) hbd x (hin b k hk)) rfl).elim
theorem place_one {a x : Ut} {i k : Nat} (h : a.ids.Nodup) (hi : a.kids[i]? = some x) (hk : a.kids[k]? = some x) : i = k := by
 by_cases e : i = k
 · exact e
 · have hka : ((Ut.alls a.kids).map Ut.id).Nodup := by
     rw [ids_eq] at h
     exact (List.nodup_cons.1 h).2
   exact (nodup_apart hka hi hk e x (self_all x) x (self_all x) rfl).elim
theorem Made.par {u x q : Ut} {p : Trip} {r : List Ut} {j : Nat} (h : Made u x p q r j) : parV x.id (putAt p (insAt j x) u) = (p, (j : Int), true) := by
 have hnd := stands_nodup h.stands
 have hc := h.count
 obtain ⟨y, p2, j2, c⟩ := cut_all (putAt p (insAt j x) u) x.id h.ok h.tame hc h.stands (List.mem_map.2 ⟨x, h.self, rfl⟩) h.ne
 have hy : y = x := by rw [← c.find, h.find]
 subst hy
 have hat : (insAt j y q).kids[j]? = some y := by
   have h0 : (insAt j y q).kids = q.kids.take j ++ [y] ++ q.kids.drop j := rfl
   have hl : (q.kids.take j).length = j := by rw [List.length_take]; have := h.le; omega
   rw [h0, List.append_assoc, List.getElem?_append_right (by omega), hl, Nat.sub_self]
   rfl
 have e := par_one _ (Nat.le_refl _) hnd h.at' c.pm hat c.at'
 have hqi : q.id = p := (lin_head u.count (Nat.le_refl _) _ _ h.lin).1
 rw [c.par, ← e]
 rw [← e] at c
 have e3 := place_one (nodup_all _ (Nat.le_refl _) hnd h.at') hat c.at'
 rw [← e3]
 show (q.id, _, _) = _
 rw [hqi]
end Go.Proofs.YtmnbobcgjnickaaDoor.Pt
namespace Go.Proofs.YtmnbobcgjnickaaDoor.Pt
open Go Go.Pv Go.RowKit
set_option linter.unusedSimpArgs false
open Lab Lcs Go.Proofs.YtmnbobcgjnickaaDoor Go.Proofs.YtmnbobcgjnickaaDoor.Pu
set_option maxRecDepth 10000
set_option maxHeartbeats 16000000
theorem movInv_pc (u : Ut) (hok : okU u) (id p : Trip) (z : Int) : PC Tryd.prog env0 5 [uv u, idv id, idv p, .int .i64 z] [.bool true] := by
 have hF := few_pc u 30 hok (by omega) (by omega)
 have hue := uv_eq u
 have hAw := awake8_pc
 by_cases hfew : fewU u 30 = true
 rotate_left
 · rw [Bool.not_eq_true] at hfew
   rw [hfew] at hF
   rw [hue] at hF ⊢
   refine PC.of_va (T := tb0) eqs_ok tb_ok rfl mixed Tryd.func5 rfl rfl (Nat.le_of_ble_eq_true rfl) ?_; intro Γ C WK LP fin h0 hW hC hB hR hLP hfin
   (try (conv => whnf)); (repeat ((first | refine qT ?_ | refine qF ?_ | refine qO ?_ | (with_reducible intro z hz); (first | (replace hz := hz (by omega); subst hz) | subst hz) | (refine CallV.mk _ (hC _ _ _ (PCw.of hF)) (fun js hjs => ?_); subst hjs) | (refine CallV.mk _ (hC _ _ _ (PCw.of hAw)) (fun js hjs => ?_); subst hjs)); (try (conv => whnf))))
   exact hfin _ (ILes.refl _)
 rw [hfew] at hF
 obtain ⟨hc, hM, hs⟩ := few30 hfew
 by_cases h0 : movE u id p z = 0
 rotate_left
 · have hMo := move_no_pc u id p z hok hM (by omega) h0
   generalize movE u id p z = e at hMo h0
   rw [uv_zero] at hMo
   rw [hue] at hF hMo ⊢
   refine PC.of_va (T := tb0) eqs_ok tb_ok rfl mixed Tryd.func5 rfl rfl (Nat.le_of_ble_eq_true rfl) ?_; intro Γ C WK LP fin h0 hW hC hB hR hLP hfin
   (try (conv => whnf)); (repeat ((first | refine qT ?_ | refine qF ?_ | refine qO ?_ | (with_reducible intro z hz); (first | (replace hz := hz (by omega); subst hz) | subst hz) | (refine CallV.mk _ (hC _ _ _ (PCw.of hF)) (fun js hjs => ?_); subst hjs) | (refine CallV.mk _ (hC _ _ _ (PCw.of hMo)) (fun js hjs => ?_); subst hjs) | (refine CallV.mk _ (hC _ _ _ (PCw.of hAw)) (fun js hjs => ?_); subst hjs)); (try (conv => whnf))))
   exact hfin _ (ILes.refl _)
 obtain ⟨h1, h2, h3, h4, h5, _⟩ := mov_facts h0
 obtain ⟨y, q, q2, k, j, r, c, rfl, m, hMo⟩ := move_ok_pc u id p z hok hM (by omega) h0
 have hcc := c.count
 have hcv := m.count
 have hPa := rparent_pc id u.count u (Nat.le_refl _) (by omega)
 have hPv := rparent_pc id (putAt p (insAt j y) (dropU id u)).count (putAt p (insAt j y) (dropU id u)) (Nat.le_refl _) (by omega)
 have hpv := m.par
 rw [c.yid] at hpv
 rw [c.par] at hPa
 rw [hpv] at hPv
 have hqn : q.id ∉ y.ids := fun h => c.apart q.id c.mem h
 have e1 : id ∈ (putAt p (insAt j y) (dropU id u)).ids := List.mem_map.2 ⟨y, m.self, c.yid⟩
 have e2 := m.ne
 have e3 := m.cut
 rw [c.yid] at e2 e3
 have hbk := move_steps (putAt p (insAt j y) (dropU id u)) (dropU id u) y u id q.id k m.ok m.tame m.count (by omega) (by omega) c.tame m.stands e1 (m.ids _ c.mem) e2 hqn (placeE_of c.ins) e3 c.back
 have hS := same_pc u u hok hok
 rw [decide_eq_true rfl] at hS
 generalize putAt p (insAt j y) (dropU id u) = v at hMo hPv hbk
 dsimp only at hPa hPv
 have hqe : idv q.id = .agg [.int .i64 q.id.x, .int .i64 q.id.y, .int .i64 q.id.z] := rfl
 have hpe : idv p = .agg [.int .i64 p.x, .int .i64 p.y, .int .i64 p.z] := rfl
 have hpp := id_eq (rfl : p = p)
 rw [uv_eq v] at hMo hPv hbk
 rw [hqe] at hPa hbk
 rw [hpe] at hMo hPv ⊢
 rw [hue] at hF hMo hPa hbk hS ⊢
 refine PC.of_va (T := tb0) eqs_ok tb_ok rfl mixed Tryd.func5 rfl rfl (Nat.le_of_ble_eq_true rfl) ?_; intro Γ C WK LP fin h0 hW hC hB hR hLP hfin
 (try (conv => whnf)); (repeat ((first | refine qT ?_ | refine qF ?_ | refine qO ?_ | (with_reducible intro z hz); (first | (replace hz := hz (by omega); subst hz) | subst hz) | (refine CallV.mk _ (hC _ _ _ (PCw.of hF)) (fun js hjs => ?_); subst hjs) | (refine CallV.mk _ (hC _ _ _ (PCw.of hMo)) (fun js hjs => ?_); subst hjs) | (refine CallV.mk _ (hC _ _ _ (PCw.of hPa)) (fun js hjs => ?_); subst hjs) | (refine CallV.mk _ (hC _ _ _ (PCw.of hPv)) (fun js hjs => ?_); subst hjs) | (refine CallV.mk _ (hC _ _ _ (PCw.of hbk)) (fun js hjs => ?_); subst hjs) | (refine CallV.mk _ (hC _ _ _ (PCw.of hS)) (fun js hjs => ?_); subst hjs) | (refine CallV.mk _ (hC _ _ _ (PCw.of hAw)) (fun js hjs => ?_); subst hjs)); (try (conv => whnf))))
 exact hfin _ (ILes.refl _)
end Go.Proofs.YtmnbobcgjnickaaDoor.Pt
namespace Go.Proofs.YtmnbobcgjnickaaDoor.Pt
open Go Go.Pv Go.Proofs.YtmnbobcgjnickaaDoor Go.Proofs.YtmnbobcgjnickaaDoor.Pu Lab Lcs Go.RowKit
theorem movInvL (u : Ut) (h : Fit u) (t : Trip) (_ht : t.ok) (p : Trip) (_hp : p.ok) (z : Int) : PC Tryd.prog env0 5 [uv u, idv t, idv p, .int .i64 z] [.bool true] := movInv_pc u h.ok t p z
end Go.Proofs.YtmnbobcgjnickaaDoor.Pt
