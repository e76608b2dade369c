/-
  Move: its error, what it makes. The reference's Move; moves. TreeeditMoves. TreeeditMoves, for arguments that came in.
-/
import Derived.Test.YtmnbobcgjnickaaGreatDoorT2
import Derived.Test.YtmnbobcgjnickaaGreatDoorT3
import Derived.Test.YtmnbobcgjnickaaGreatDoorT1
namespace Go.Proofs.YtmnbobcgjnickaaGreatDoor.Pt
open Go Go.Pv Go.RowKit
set_option linter.unusedSimpArgs false
open Lab Lcs Go.Proofs.YtmnbobcgjnickaaGreatDoor Go.Proofs.YtmnbobcgjnickaaGreatDoor.Pu
set_option maxRecDepth 10000
set_option maxHeartbeats 16000000
def movE (u : Ut) (id p : Trip) (z : Int) : Int := if editB u = false then 1 else if id ∉ u.ids then 4 else if p ∉ u.ids then 4 else if id = u.id then 9 else if p ∈ (findU id u).ids then 9 else placeE (dropU id u) p z (findU id u)
theorem pe_pc (u x : Ut) (p : Trip) (z : Int) (hM : Tame u) (hc : u.count ≤ 10000) (hx : x.count ≤ 10000) : PC Tryz.prog env0 43 [uv u, idv p, .int .i64 z, uv x] [.int .i64 (placeE u p z x)] :=
 placeError_pc u p z x (small_tame hM) (by omega) (by omega) (by have := depth_count x; omega) (by have := find_kids p u; omega) (by have := anc_le p u; omega)
theorem move_no_pc (u : Ut) (id p : Trip) (z : Int) (hok : okU u) (hM : Tame u) (hc : u.count ≤ 1024) (hne : movE u id p z ≠ 0) : PC Tryz.prog env0 15 [uv u, idv id, idv p, .int .i64 z] [uv zeroU, .int .i64 (movE u id p z)] := by
 have hEd := editable_pc u hok hM (by omega)
 have hH1 := has_pc u id (by omega)
 have hH2 := has_pc u p (by omega)
 have hue := uv_eq u
 rw [edit_stands] at hEd
 unfold movE at hne ⊢
 rw [edit_stands] at hne ⊢
 by_cases h1 : standsB u = false
 · rw [if_pos h1]
   rw [h1] at hEd
   rw [hue] at hEd ⊢
   refine PC.of_va (T := tb0) eqs_ok tb_ok rfl mixed Tryz.func15 rfl rfl (Nat.le_of_ble_eq_true rfl) ?_; intro Γ C WK LP fin h0 hW hC hB hR hLP hfin
   (try (conv => whnf)); (repeat ((first | refine qT ?_ | refine qF ?_ | refine qO ?_ | (with_reducible intro z hz); (first | (replace hz := hz (by omega); subst hz) | subst hz) | (refine CallV.mk _ (hC _ _ _ (PCw.of hEd)) (fun js hjs => ?_); subst hjs)); (try (conv => whnf))))
   refine hfin _ ?_
   exact .cons zero_le (.refl _)
 rw [if_neg h1] at hne ⊢
 rw [Bool.not_eq_false] at h1
 rw [h1] at hEd
 by_cases h2 : id ∈ u.ids
 rotate_left
 · rw [if_pos h2]
   rw [decide_eq_false h2] at hH1
   rw [hue] at hEd hH1 ⊢
   refine PC.of_va (T := tb0) eqs_ok tb_ok rfl mixed Tryz.func15 rfl rfl (Nat.le_of_ble_eq_true rfl) ?_; intro Γ C WK LP fin h0 hW hC hB hR hLP hfin
   (try (conv => whnf)); (repeat ((first | refine qT ?_ | refine qF ?_ | refine qO ?_ | (with_reducible intro z hz); (first | (replace hz := hz (by omega); subst hz) | subst hz) | (refine CallV.mk _ (hC _ _ _ (PCw.of hEd)) (fun js hjs => ?_); subst hjs) | (refine CallV.mk _ (hC _ _ _ (PCw.of hH1)) (fun js hjs => ?_); subst hjs)); (try (conv => whnf))))
   refine hfin _ ?_
   exact .cons zero_le (.refl _)
 rw [if_neg (fun e => e h2)] at hne ⊢
 rw [decide_eq_true h2] at hH1
 by_cases h3 : p ∈ u.ids
 rotate_left
 · rw [if_pos h3]
   rw [decide_eq_false h3] at hH2
   rw [hue] at hEd hH1 hH2 ⊢
   refine PC.of_va (T := tb0) eqs_ok tb_ok rfl mixed Tryz.func15 rfl rfl (Nat.le_of_ble_eq_true rfl) ?_; intro Γ C WK LP fin h0 hW hC hB hR hLP hfin
   (try (conv => whnf)); (repeat ((first | refine qT ?_ | refine qF ?_ | refine qO ?_ | (with_reducible intro z hz); (first | (replace hz := hz (by omega); subst hz) | subst hz) | (refine CallV.mk _ (hC _ _ _ (PCw.of hEd)) (fun js hjs => ?_); subst hjs) | (refine CallV.mk _ (hC _ _ _ (PCw.of hH1)) (fun js hjs => ?_); subst hjs) | (refine CallV.mk _ (hC _ _ _ (PCw.of hH2)) (fun js hjs => ?_); subst hjs)); (try (conv => whnf))))
   refine hfin _ ?_
   exact .cons zero_le (.refl _)
 rw [if_neg (fun e => e h3)] at hne ⊢
 rw [decide_eq_true h3] at hH2
 by_cases h4 : id = u.id
 · have hi := id_eq h4
   rw [if_pos h4]
   rw [hue] at hEd hH1 hH2 ⊢
   refine PC.of_va (T := tb0) eqs_ok tb_ok rfl mixed Tryz.func15 rfl rfl (Nat.le_of_ble_eq_true rfl) ?_; intro Γ C WK LP fin h0 hW hC hB hR hLP hfin
   (try (conv => whnf)); (repeat ((first | refine qT ?_ | refine qF ?_ | refine qO ?_ | (with_reducible intro z hz); (first | (replace hz := hz (by omega); subst hz) | subst hz) | (refine CallV.mk _ (hC _ _ _ (PCw.of hEd)) (fun js hjs => ?_); subst hjs) | (refine CallV.mk _ (hC _ _ _ (PCw.of hH1)) (fun js hjs => ?_); subst hjs) | (refine CallV.mk _ (hC _ _ _ (PCw.of hH2)) (fun js hjs => ?_); subst hjs)); (try (conv => whnf))))
   refine hfin _ ?_
   exact .cons zero_le (.refl _)
 have hi := id_ne h4
 rw [if_neg h4] at hne ⊢
 obtain ⟨y, q, j, c⟩ := cut_all u id hok hM hc h1 h2 h4
 have hCu := c.cut
 have hcc := c.count
 have hH3 := has_pc y p (by omega)
 have hPl := pe_pc (dropU id u) y p z c.tame (by omega) (by omega)
 rw [c.find] at hne ⊢
 generalize dropU id u = rest at hCu hPl hne ⊢
 rw [uv_eq rest, uv_eq y] at hCu hPl
 rw [uv_eq y] at hH3
 by_cases h5 : p ∈ y.ids
 · rw [if_pos h5]
   rw [decide_eq_true h5] at hH3
   rw [hue] at hEd hH1 hH2 hCu ⊢
   refine PC.of_va (T := tb0) eqs_ok tb_ok rfl mixed Tryz.func15 rfl rfl (Nat.le_of_ble_eq_true rfl) ?_; intro Γ C WK LP fin h0 hW hC hB hR hLP hfin
   (try (conv => whnf)); (repeat ((first | refine qT ?_ | refine qF ?_ | refine qO ?_ | (with_reducible intro z hz); (first | (replace hz := hz (by omega); subst hz) | subst hz) | (refine CallV.mk _ (hC _ _ _ (PCw.of hEd)) (fun js hjs => ?_); subst hjs) | (refine CallV.mk _ (hC _ _ _ (PCw.of hH1)) (fun js hjs => ?_); subst hjs) | (refine CallV.mk _ (hC _ _ _ (PCw.of hH2)) (fun js hjs => ?_); subst hjs) | (refine CallV.mk _ (hC _ _ _ (PCw.of hCu)) (fun js hjs => ?_); subst hjs) | (refine CallV.mk _ (hC _ _ _ (PCw.of hH3)) (fun js hjs => ?_); subst hjs)); (try (conv => whnf))))
   refine hfin _ ?_
   exact .cons zero_le (.refl _)
 rw [if_neg h5] at hne ⊢
 rw [decide_eq_false h5] at hH3
 generalize placeE rest p z y = e at hPl hne ⊢
 rw [hue] at hEd hH1 hH2 hCu ⊢
 refine PC.of_va (T := tb0) eqs_ok tb_ok rfl mixed Tryz.func15 rfl rfl (Nat.le_of_ble_eq_true rfl) ?_; intro Γ C WK LP fin h0 hW hC hB hR hLP hfin
 (try (conv => whnf)); (repeat ((first | refine qT ?_ | refine qF ?_ | refine qO ?_ | (with_reducible intro z hz); (first | (replace hz := hz (by omega); subst hz) | subst hz) | (refine CallV.mk _ (hC _ _ _ (PCw.of hEd)) (fun js hjs => ?_); subst hjs) | (refine CallV.mk _ (hC _ _ _ (PCw.of hH1)) (fun js hjs => ?_); subst hjs) | (refine CallV.mk _ (hC _ _ _ (PCw.of hH2)) (fun js hjs => ?_); subst hjs) | (refine CallV.mk _ (hC _ _ _ (PCw.of hCu)) (fun js hjs => ?_); subst hjs) | (refine CallV.mk _ (hC _ _ _ (PCw.of hH3)) (fun js hjs => ?_); subst hjs) | (refine CallV.mk _ (hC _ _ _ (PCw.of hPl)) (fun js hjs => ?_); subst hjs)); (try (conv => whnf))))
 refine hfin _ ?_
 exact .cons zero_le (.refl _)
theorem mov_facts {u : Ut} {id p : Trip} {z : Int} (h : movE u id p z = 0) : standsB u = true ∧ id ∈ u.ids ∧ p ∈ u.ids ∧ id ≠ u.id ∧ p ∉ (findU id u).ids ∧ placeE (dropU id u) p z (findU id u) = 0 := by
 unfold movE at h
 rw [edit_stands] at h
 by_cases h1 : standsB u = false
 · rw [if_pos h1] at h; cases h
 rw [if_neg h1] at h
 by_cases h2 : id ∈ u.ids
 rotate_left
 · rw [if_pos h2] at h; cases h
 rw [if_neg (fun e => e h2)] at h
 by_cases h3 : p ∈ u.ids
 rotate_left
 · rw [if_pos h3] at h; cases h
 rw [if_neg (fun e => e h3)] at h
 by_cases h4 : id = u.id
 · rw [if_pos h4] at h; cases h
 rw [if_neg h4] at h
 by_cases h5 : p ∈ (findU id u).ids
 · rw [if_pos h5] at h; cases h
 rw [if_neg h5] at h
 exact ⟨by simpa using h1, h2, h3, h4, h5, h⟩
theorem Cut.insE {u y q : Ut} {id p : Trip} {k : Nat} {z : Int} (c : Cut u id y q k) (h : placeE (dropU id u) p z y = 0) : insE (dropU id u) p z y = 0 := by
 unfold Pt.insE
 rw [edit_stands, edit_stands, c.stands, c.stands2, if_neg (by decide), if_neg (by decide), if_neg c.kind, if_neg (fun e => e h), if_neg]
 intro e
 obtain ⟨t, ht, he⟩ := List.any_eq_true.1 e
 simp only [decide_eq_true_eq] at he
 exact c.apart t he ht
theorem move_steps (u rest y v : Ut) (id p : Trip) (j : Nat) (hok : okU u) (hM : Tame u) (hc : u.count ≤ 1024) (hcy : y.count ≤ 1024) (hcr : rest.count ≤ 1024) (hMr : Tame rest) (h1 : standsB u = true) (h2 : id ∈ u.ids) (h3 : p ∈ u.ids) (h4 : id ≠ u.id) (h5 : p ∉ y.ids) (h6 : placeE rest p (j : Int) y = 0)
   (hCu : PC Tryz.prog env0 42 [uv u, idv id] [uv rest, uv y]) (hWk : PC Tryz.prog env0 33 [uv rest, idv p, .int .i64 (j : Nat), uv y] [uv v]) : PC Tryz.prog env0 15 [uv u, idv id, idv p, .int .i64 (j : Nat)] [uv v, .int .i64 0] := by
 have hEd := editable_pc u hok hM (by omega)
 have hH1 := has_pc u id (by omega)
 have hH2 := has_pc u p (by omega)
 have hH3 := has_pc y p (by omega)
 have hPl := pe_pc rest y p j hMr (by omega) (by omega)
 have hue := uv_eq u
 have hi := id_ne h4
 rw [edit_stands, h1] at hEd
 rw [decide_eq_true h2] at hH1
 rw [decide_eq_true h3] at hH2
 rw [decide_eq_false h5] at hH3
 rw [h6] at hPl
 rw [uv_eq rest, uv_eq y] at hCu hPl hWk
 rw [uv_eq y] at hH3
 rw [uv_eq v] at hWk ⊢
 rw [hue] at hEd hH1 hH2 hCu ⊢
 refine PC.of_va (T := tb0) eqs_ok tb_ok rfl mixed Tryz.func15 rfl rfl (Nat.le_of_ble_eq_true rfl) ?_; intro Γ C WK LP fin h0 hW hC hB hR hLP hfin
 (try (conv => whnf)); (repeat ((first | refine qT ?_ | refine qF ?_ | refine qO ?_ | (with_reducible intro z hz); (first | (replace hz := hz (by omega); subst hz) | subst hz) | (refine CallV.mk _ (hC _ _ _ (PCw.of hEd)) (fun js hjs => ?_); subst hjs) | (refine CallV.mk _ (hC _ _ _ (PCw.of hH1)) (fun js hjs => ?_); subst hjs) | (refine CallV.mk _ (hC _ _ _ (PCw.of hH2)) (fun js hjs => ?_); subst hjs) | (refine CallV.mk _ (hC _ _ _ (PCw.of hCu)) (fun js hjs => ?_); subst hjs) | (refine CallV.mk _ (hC _ _ _ (PCw.of hH3)) (fun js hjs => ?_); subst hjs) | (refine CallV.mk _ (hC _ _ _ (PCw.of hPl)) (fun js hjs => ?_); subst hjs) | (refine CallV.mk _ (hC _ _ _ (PCw.of hWk)) (fun js hjs => ?_); subst hjs)); (try (conv => whnf))))
 exact hfin _ (ILes.refl _)
theorem par_one : ∀ (n : Nat) {v a b x : Ut} {i k : Nat}, v.count ≤ n → v.ids.Nodup → a ∈ v.all → b ∈ v.all → a.kids[i]? = some x → b.kids[k]? = some x → a = b
 | 0, v, _, _, _, _, _, hn, _, _, _, _, _ => by have := count_pos v; omega
 | n + 1, v, a, b, x, i, k, hn, hnd, ha, hb, hi, hk => by
   have hka : ((Ut.alls v.kids).map Ut.id).Nodup := by
     rw [ids_eq] at hnd
     exact (List.nodup_cons.1 hnd).2
   have hin : ∀ (w : Ut) (m : Nat), w.kids[m]? = some x → x ∈ w.all := fun w m hm => kid_in (List.mem_of_getElem? hm) x (self_all x)
   have side : ∀ (w : Ut) (m l : Nat), w ∈ Ut.alls v.kids → w.kids[m]? = some x → v.kids[l]? = some x → False := by
     intro w m l hw hm hl
     obtain ⟨c, hc, hwc⟩ := mem_alls.1 hw
     obtain ⟨t, ht⟩ := List.getElem?_of_mem hc
     have hxc : x ∈ c.all := all_trans c.count c w (Nat.le_refl _) hwc x (hin w m hm)
     by_cases e : l = t
     · subst e
       have e2 : c = x := by rw [ht] at hl; exact Option.some.inj hl
       subst e2
       have g1 := kid_count (List.mem_of_getElem? hm)
       have g2 := all_count hwc
       omega
     · exact nodup_apart hka hl ht e x (self_all x) x hxc rfl
   rw [Ut.all_eq] at ha hb
   rcases List.mem_cons.1 ha with rfl | ha
   · rcases List.mem_cons.1 hb with rfl | hb
     · rfl
     · exact (side b k i hb hk hi).elim
   · rcases List.mem_cons.1 hb with rfl | hb
     · exact (side a i k ha hi hk).elim
     · obtain ⟨c, hc, hac⟩ := mem_alls.1 ha
       obtain ⟨d, hd, hbd⟩ := mem_alls.1 hb
       obtain ⟨s, hs⟩ := List.getElem?_of_mem hc
       obtain ⟨t, ht⟩ := List.getElem?_of_mem hd
       by_cases e : s = t
       · subst e
         have e2 : c = d := by rw [hs] at ht; exact Option.some.inj ht
         subst e2
         exact par_one n (by have := kid_count hc; omega) (nodup_kid hnd hc) hac hbd hi hk
       · exact (nodup_apart hka hs ht e x (all_trans c.count c a (Nat.le_refl _) hac x (hin a i hi)) x (all_trans d.count d b (Nat.le_refl _) hbd x (hin b k hk)) rfl).elim
theorem place_one {a x : Ut} {i k : Nat} (h : a.ids.Nodup) (hi : a.kids[i]? = some x) (hk : a.kids[k]? = some x) : i = k := by
 by_cases e : i = k
 · exact e
 · have hka : ((Ut.alls a.kids).map Ut.id).Nodup := by
     rw [ids_eq] at h
     exact (List.nodup_cons.1 h).2
   exact (nodup_apart hka hi hk e x (self_all x) x (self_all x) rfl).elim
theorem Made.par {u x q : Ut} {p : Trip} {r : List Ut} {j : Nat} (h : Made u x p q r j) : parV x.id (putAt p (insAt j x) u) = (p, (j : Int), true) := by
 have hnd := stands_nodup h.stands
 have hc := h.count
 obtain ⟨y, p2, j2, c⟩ := cut_all (putAt p (insAt j x) u) x.id h.ok h.tame hc h.stands (List.mem_map.2 ⟨x, h.self, rfl⟩) h.ne
 have hy : y = x := by rw [← c.find, h.find]
 subst hy
 have hat : (insAt j y q).kids[j]? = some y := by
   have h0 : (insAt j y q).kids = q.kids.take j ++ [y] ++ q.kids.drop j := rfl
   have hl : (q.kids.take j).length = j := by rw [List.length_take]; have := h.le; omega
   rw [h0, List.append_assoc, List.getElem?_append_right (by omega), hl, Nat.sub_self]
   rfl
 have e := par_one _ (Nat.le_refl _) hnd h.at' c.pm hat c.at'
 have hqi : q.id = p := (lin_head u.count (Nat.le_refl _) _ _ h.lin).1
 rw [c.par, ← e]
 rw [← e] at c
 have e3 := place_one (nodup_all _ (Nat.le_refl _) hnd h.at') hat c.at'
 rw [← e3]
 show (q.id, _, _) = _
 rw [hqi]
end Go.Proofs.YtmnbobcgjnickaaGreatDoor.Pt
namespace Go.Proofs.YtmnbobcgjnickaaGreatDoor.Pt
open Go Go.Pv Go.RowKit
set_option linter.unusedSimpArgs false
open Lab Lcs Go.Proofs.YtmnbobcgjnickaaGreatDoor Go.Proofs.YtmnbobcgjnickaaGreatDoor.Pu
set_option maxRecDepth 10000
set_option maxHeartbeats 16000000
theorem rmove_pc (u y q : Ut) (id p : Trip) (z : Int) (v : Ut) (k : Nat) (hok : okU u) (hM : Tame u) (hc : u.count ≤ 1024) (c : Cut u id y q k) (h1 : standsB u = true) (h2 : id ∈ u.ids) (h3 : p ∈ u.ids) (h4 : id ≠ u.id) (h5 : p ∉ y.ids)
   (hGr : placeE (dropU id u) p z y = 0 → PC Tryz.prog env0 34 [uv (dropU id u), idv p, .int .i64 z, uv y] [uv v]) :
   PC Tryz.prog env0 16 [uv u, idv id, idv p, .int .i64 z] (if placeE (dropU id u) p z y = 0 then [uv v, .int .i64 0] else [uv zeroU, .int .i64 (placeE (dropU id u) p z y)]) := by
 have hcc := c.count
 have hSt := stands_pc u hok hM (by omega)
 have hFi := rfind_pc id u.count u (Nat.le_refl _) (by omega)
 have hIn := in_pc u p (by omega)
 have hI2 := in_pc y p (by omega)
 have hWi := without_pc id u.count u (Nat.le_refl _) (by omega)
 have hF2 := rfind_pc p (dropU id u).count (dropU id u) (Nat.le_refl _) (by omega)
 have hDe := deep_pc (dropU id u) p (by omega)
 have hDp := rdepth_pc y.count y (Nat.le_refl _) (by omega) (by have := depth_count y; omega)
 have hkl := find_kids p (dropU id u)
 have hal := anc_le p (dropU id u)
 have hdc := depth_count y
 have hfp : foundB p (dropU id u) = true := by
   rw [found_mem]
   have hpm := c.perm.symm.mem_iff.1 h3
   rcases List.mem_append.1 hpm with h | h
   · exact decide_eq_true h
   · exact absurd h h5
 have hue := uv_eq u
 have hi : ¬ _ := id_ne (fun e : u.id = id => h4 e.symm)
 rw [standsR_eq, h1] at hSt
 rw [found_mem, decide_eq_true h2, c.find] at hFi
 rw [decide_eq_true h3] at hIn
 rw [decide_eq_false h5] at hI2
 rw [dropR_eq u.count (Nat.le_refl _)] at hWi
 rw [hfp] at hF2
 have hNe := rnests_pc (findU p (dropU id u)).kind y.kind
 have hTa := rtaken_pc (findU p (dropU id u)).kids y.kind y.label y.id (by omega)
 have hml : ((findU p (dropU id u)).kids.map uv).length = (findU p (dropU id u)).kids.length := List.length_map _
 have hPe : placeE (dropU id u) p z y = if nestsB (findU p (dropU id u)).kind y.kind = false then 9 else if z < 0 ∨ ((findU p (dropU id u)).kids.length : Int) < z then 3 else if takenB (findU p (dropU id u)).kids y.kind y.label = true then 10 else if 64 ≤ (findU p (dropU id u)).kids.length ∨ 8 < (ancL p (dropU id u)).length + 1 + y.depth then 6 else 0 := by
   unfold placeE
   rw [hfp, if_neg (by decide)]
   have e : (64 ≤ (findU p (dropU id u)).kids.length ∨ 1024 < (dropU id u).count + y.count ∨ 8 < (ancL p (dropU id u)).length + 1 + y.depth) ↔ (64 ≤ (findU p (dropU id u)).kids.length ∨ 8 < (ancL p (dropU id u)).length + 1 + y.depth) := by
     constructor
     · rintro (h | h | h)
       · exact Or.inl h
       · omega
       · exact Or.inr h
     · rintro (h | h)
       · exact Or.inl h
       · exact Or.inr (Or.inr h)
   simp only [e]
 have hdd : y.depth ≤ 2000 := by omega
 replace hal : (ancL p (dropU id u)).length ≤ 2000 := by omega
 replace hkl : (findU p (dropU id u)).kids.length ≤ 2000 := by omega
 clear hfp hcc hdc
 generalize placeE (dropU id u) p z y = e at hPe hGr ⊢
 generalize (ancL p (dropU id u)).length = a at hDe hPe hal
 generalize findU p (dropU id u) = w at hF2 hNe hTa hml hPe hkl
 generalize dropU id u = rest at hWi hF2 hDe hGr
 generalize nestsB w.kind y.kind = b1 at hNe hPe
 generalize takenB w.kids y.kind y.label = b2 at hTa hPe
 rw [uv_eq y] at hFi hI2 hDp
 rw [uv_eq rest] at hWi hF2 hDe
 rw [uv_eq w] at hF2
 rw [uv_eq v]
 have hye : idv y.id = .agg [.int .i64 y.id.x, .int .i64 y.id.y, .int .i64 y.id.z] := rfl
 rw [hye] at hTa
 cases b1
 · rw [if_pos rfl] at hPe
   subst hPe
   rw [if_neg (by decide)]
   rw [hue] at hSt hFi hIn hWi ⊢
   refine PC.of_va (T := tb0) eqs_ok tb_ok rfl mixed Tryz.func16 rfl rfl (Nat.le_of_ble_eq_true rfl) ?_; intro Γ C WK LP fin h0 hW hC hB hR hLP hfin
   (try (conv => whnf)); (repeat ((first | refine qT ?_ | refine qF ?_ | refine qO ?_ | (with_reducible intro z hz); (first | (replace hz := hz (by omega); subst hz) | subst hz) | (refine CallV.mk _ (hC _ _ _ (PCw.of hSt)) (fun js hjs => ?_); subst hjs) | (refine CallV.mk _ (hC _ _ _ (PCw.of hFi)) (fun js hjs => ?_); subst hjs) | (refine CallV.mk _ (hC _ _ _ (PCw.of hIn)) (fun js hjs => ?_); subst hjs) | (refine CallV.mk _ (hC _ _ _ (PCw.of hI2)) (fun js hjs => ?_); subst hjs) | (refine CallV.mk _ (hC _ _ _ (PCw.of hWi)) (fun js hjs => ?_); subst hjs) | (refine CallV.mk _ (hC _ _ _ (PCw.of hF2)) (fun js hjs => ?_); subst hjs) | (refine CallV.mk _ (hC _ _ _ (PCw.of hNe)) (fun js hjs => ?_); subst hjs)); (try (conv => whnf))))
   refine hfin _ ?_
   exact .cons zero_le (.refl _)
 rw [if_neg (by decide)] at hPe
 by_cases hz1 : z < 0
 · rw [if_pos (Or.inl hz1)] at hPe
   subst hPe
   rw [if_neg (by decide)]
   rw [hue] at hSt hFi hIn hWi ⊢
   refine PC.of_va (T := tb0) eqs_ok tb_ok rfl mixed Tryz.func16 rfl rfl (Nat.le_of_ble_eq_true rfl) ?_; intro Γ C WK LP fin h0 hW hC hB hR hLP hfin
   (try (conv => whnf)); (repeat ((first | refine qT ?_ | refine qF ?_ | refine qO ?_ | (with_reducible intro z hz); (first | (replace hz := hz (by omega); subst hz) | subst hz) | (refine CallV.mk _ (hC _ _ _ (PCw.of hSt)) (fun js hjs => ?_); subst hjs) | (refine CallV.mk _ (hC _ _ _ (PCw.of hFi)) (fun js hjs => ?_); subst hjs) | (refine CallV.mk _ (hC _ _ _ (PCw.of hIn)) (fun js hjs => ?_); subst hjs) | (refine CallV.mk _ (hC _ _ _ (PCw.of hI2)) (fun js hjs => ?_); subst hjs) | (refine CallV.mk _ (hC _ _ _ (PCw.of hWi)) (fun js hjs => ?_); subst hjs) | (refine CallV.mk _ (hC _ _ _ (PCw.of hF2)) (fun js hjs => ?_); subst hjs) | (refine CallV.mk _ (hC _ _ _ (PCw.of hNe)) (fun js hjs => ?_); subst hjs)); (try (conv => whnf))))
   refine hfin _ ?_
   exact .cons zero_le (.refl _)
 by_cases hz2 : (w.kids.length : Int) < z
 · rw [if_pos (Or.inr hz2)] at hPe
   subst hPe
   rw [if_neg (by decide)]
   rw [hue] at hSt hFi hIn hWi ⊢
   refine PC.of_va (T := tb0) eqs_ok tb_ok rfl mixed Tryz.func16 rfl rfl (Nat.le_of_ble_eq_true rfl) ?_; intro Γ C WK LP fin h0 hW hC hB hR hLP hfin
   (try (conv => whnf)); (repeat ((first | refine qT ?_ | refine qF ?_ | refine qO ?_ | (with_reducible intro z hz); (first | (replace hz := hz (by omega); subst hz) | subst hz) | (refine CallV.mk _ (hC _ _ _ (PCw.of hSt)) (fun js hjs => ?_); subst hjs) | (refine CallV.mk _ (hC _ _ _ (PCw.of hFi)) (fun js hjs => ?_); subst hjs) | (refine CallV.mk _ (hC _ _ _ (PCw.of hIn)) (fun js hjs => ?_); subst hjs) | (refine CallV.mk _ (hC _ _ _ (PCw.of hI2)) (fun js hjs => ?_); subst hjs) | (refine CallV.mk _ (hC _ _ _ (PCw.of hWi)) (fun js hjs => ?_); subst hjs) | (refine CallV.mk _ (hC _ _ _ (PCw.of hF2)) (fun js hjs => ?_); subst hjs) | (refine CallV.mk _ (hC _ _ _ (PCw.of hNe)) (fun js hjs => ?_); subst hjs)); (try (conv => whnf))))
   refine hfin _ ?_
   exact .cons zero_le (.refl _)
 rw [if_neg (fun h => h.elim hz1 hz2)] at hPe
 cases b2
 rotate_left
 · rw [if_pos rfl] at hPe
   subst hPe
   rw [if_neg (by decide)]
   rw [hue] at hSt hFi hIn hWi ⊢
   refine PC.of_va (T := tb0) eqs_ok tb_ok rfl mixed Tryz.func16 rfl rfl (Nat.le_of_ble_eq_true rfl) ?_; intro Γ C WK LP fin h0 hW hC hB hR hLP hfin
   (try (conv => whnf)); (repeat ((first | refine qT ?_ | refine qF ?_ | refine qO ?_ | (with_reducible intro z hz); (first | (replace hz := hz (by omega); subst hz) | subst hz) | (refine CallV.mk _ (hC _ _ _ (PCw.of hSt)) (fun js hjs => ?_); subst hjs) | (refine CallV.mk _ (hC _ _ _ (PCw.of hFi)) (fun js hjs => ?_); subst hjs) | (refine CallV.mk _ (hC _ _ _ (PCw.of hIn)) (fun js hjs => ?_); subst hjs) | (refine CallV.mk _ (hC _ _ _ (PCw.of hI2)) (fun js hjs => ?_); subst hjs) | (refine CallV.mk _ (hC _ _ _ (PCw.of hWi)) (fun js hjs => ?_); subst hjs) | (refine CallV.mk _ (hC _ _ _ (PCw.of hF2)) (fun js hjs => ?_); subst hjs) | (refine CallV.mk _ (hC _ _ _ (PCw.of hNe)) (fun js hjs => ?_); subst hjs) | (refine CallV.mk _ (hC _ _ _ (PCw.of hTa)) (fun js hjs => ?_); subst hjs)); (try (conv => whnf))))
   refine hfin _ ?_
   exact .cons zero_le (.refl _)
 rw [if_neg (by decide)] at hPe
 by_cases k1 : 64 ≤ w.kids.length
 · rw [if_pos (Or.inl k1)] at hPe
   subst hPe
   rw [if_neg (by decide)]
   rw [hue] at hSt hFi hIn hWi ⊢
   refine PC.of_va (T := tb0) eqs_ok tb_ok rfl mixed Tryz.func16 rfl rfl (Nat.le_of_ble_eq_true rfl) ?_; intro Γ C WK LP fin h0 hW hC hB hR hLP hfin
   (try (conv => whnf)); (repeat ((first | refine qT ?_ | refine qF ?_ | refine qO ?_ | (with_reducible intro z hz); (first | (replace hz := hz (by omega); subst hz) | subst hz) | (refine CallV.mk _ (hC _ _ _ (PCw.of hSt)) (fun js hjs => ?_); subst hjs) | (refine CallV.mk _ (hC _ _ _ (PCw.of hFi)) (fun js hjs => ?_); subst hjs) | (refine CallV.mk _ (hC _ _ _ (PCw.of hIn)) (fun js hjs => ?_); subst hjs) | (refine CallV.mk _ (hC _ _ _ (PCw.of hI2)) (fun js hjs => ?_); subst hjs) | (refine CallV.mk _ (hC _ _ _ (PCw.of hWi)) (fun js hjs => ?_); subst hjs) | (refine CallV.mk _ (hC _ _ _ (PCw.of hF2)) (fun js hjs => ?_); subst hjs) | (refine CallV.mk _ (hC _ _ _ (PCw.of hNe)) (fun js hjs => ?_); subst hjs) | (refine CallV.mk _ (hC _ _ _ (PCw.of hTa)) (fun js hjs => ?_); subst hjs)); (try (conv => whnf))))
   refine hfin _ ?_
   exact .cons zero_le (.refl _)
 by_cases k2 : 8 < a + 1 + y.depth
 · rw [if_pos (Or.inr k2)] at hPe
   subst hPe
   rw [if_neg (by decide)]
   rw [hue] at hSt hFi hIn hWi ⊢
   refine PC.of_va (T := tb0) eqs_ok tb_ok rfl mixed Tryz.func16 rfl rfl (Nat.le_of_ble_eq_true rfl) ?_; intro Γ C WK LP fin h0 hW hC hB hR hLP hfin
   (try (conv => whnf)); (repeat ((first | refine qT ?_ | refine qF ?_ | refine qO ?_ | (with_reducible intro z hz); (first | (replace hz := hz (by omega); subst hz) | subst hz) | (refine CallV.mk _ (hC _ _ _ (PCw.of hSt)) (fun js hjs => ?_); subst hjs) | (refine CallV.mk _ (hC _ _ _ (PCw.of hFi)) (fun js hjs => ?_); subst hjs) | (refine CallV.mk _ (hC _ _ _ (PCw.of hIn)) (fun js hjs => ?_); subst hjs) | (refine CallV.mk _ (hC _ _ _ (PCw.of hI2)) (fun js hjs => ?_); subst hjs) | (refine CallV.mk _ (hC _ _ _ (PCw.of hWi)) (fun js hjs => ?_); subst hjs) | (refine CallV.mk _ (hC _ _ _ (PCw.of hF2)) (fun js hjs => ?_); subst hjs) | (refine CallV.mk _ (hC _ _ _ (PCw.of hNe)) (fun js hjs => ?_); subst hjs) | (refine CallV.mk _ (hC _ _ _ (PCw.of hTa)) (fun js hjs => ?_); subst hjs) | (refine CallV.mk _ (hC _ _ _ (PCw.of hDe)) (fun js hjs => ?_); subst hjs) | (refine CallV.mk _ (hC _ _ _ (PCw.of hDp)) (fun js hjs => ?_); subst hjs)); (try (conv => whnf))))
   refine hfin _ ?_
   exact .cons zero_le (.refl _)
 rw [if_neg (fun h => h.elim k1 k2)] at hPe
 subst hPe
 rw [if_pos rfl]
 replace hGr := hGr rfl
 rw [uv_eq rest, uv_eq y, uv_eq v] at hGr
 rw [hue] at hSt hFi hIn hWi ⊢
 refine PC.of_va (T := tb0) eqs_ok tb_ok rfl mixed Tryz.func16 rfl rfl (Nat.le_of_ble_eq_true rfl) ?_; intro Γ C WK LP fin h0 hW hC hB hR hLP hfin
 (try (conv => whnf)); (repeat ((first | refine qT ?_ | refine qF ?_ | refine qO ?_ | (with_reducible intro z hz); (first | (replace hz := hz (by omega); subst hz) | subst hz) | (refine CallV.mk _ (hC _ _ _ (PCw.of hSt)) (fun js hjs => ?_); subst hjs) | (refine CallV.mk _ (hC _ _ _ (PCw.of hFi)) (fun js hjs => ?_); subst hjs) | (refine CallV.mk _ (hC _ _ _ (PCw.of hIn)) (fun js hjs => ?_); subst hjs) | (refine CallV.mk _ (hC _ _ _ (PCw.of hI2)) (fun js hjs => ?_); subst hjs) | (refine CallV.mk _ (hC _ _ _ (PCw.of hWi)) (fun js hjs => ?_); subst hjs) | (refine CallV.mk _ (hC _ _ _ (PCw.of hF2)) (fun js hjs => ?_); subst hjs) | (refine CallV.mk _ (hC _ _ _ (PCw.of hNe)) (fun js hjs => ?_); subst hjs) | (refine CallV.mk _ (hC _ _ _ (PCw.of hTa)) (fun js hjs => ?_); subst hjs) | (refine CallV.mk _ (hC _ _ _ (PCw.of hDe)) (fun js hjs => ?_); subst hjs) | (refine CallV.mk _ (hC _ _ _ (PCw.of hDp)) (fun js hjs => ?_); subst hjs) | (refine CallV.mk _ (hC _ _ _ (PCw.of hGr)) (fun js hjs => ?_); subst hjs)); (try (conv => whnf))))
 exact hfin _ (ILes.refl _)
theorem rmove_no_pc (u : Ut) (id p : Trip) (z : Int) (hok : okU u) (hM : Tame u) (hc : u.count ≤ 1024) (hn : ¬ (standsB u = true ∧ id ∈ u.ids ∧ p ∈ u.ids ∧ id ≠ u.id ∧ p ∉ (findU id u).ids)) : PC Tryz.prog env0 16 [uv u, idv id, idv p, .int .i64 z] [uv zeroU, .int .i64 (movE u id p z)] := by
 have hSt := stands_pc u hok hM (by omega)
 have hFi := rfind_pc id u.count u (Nat.le_refl _) (by omega)
 have hIn := in_pc u p (by omega)
 have hue := uv_eq u
 rw [standsR_eq] at hSt
 rw [found_mem] at hFi
 unfold movE
 rw [edit_stands]
 by_cases h1 : standsB u = false
 · rw [if_pos h1]
   rw [h1] at hSt
   rw [hue] at hSt ⊢
   refine PC.of_va (T := tb0) eqs_ok tb_ok rfl mixed Tryz.func16 rfl rfl (Nat.le_of_ble_eq_true rfl) ?_; intro Γ C WK LP fin h0 hW hC hB hR hLP hfin
   (try (conv => whnf)); (repeat ((first | refine qT ?_ | refine qF ?_ | refine qO ?_ | (with_reducible intro z hz); (first | (replace hz := hz (by omega); subst hz) | subst hz) | (refine CallV.mk _ (hC _ _ _ (PCw.of hSt)) (fun js hjs => ?_); subst hjs)); (try (conv => whnf))))
   refine hfin _ ?_
   exact .cons zero_le (.refl _)
 rw [if_neg h1]
 rw [Bool.not_eq_false] at h1
 rw [h1] at hSt
 have hfc : (findU id u).count ≤ u.count := find_count id u
 have hI2 := in_pc (findU id u) p (by omega)
 generalize hy : findU id u = y at hFi hI2 hn ⊢
 rw [uv_eq y] at hFi hI2
 by_cases h2 : id ∈ u.ids
 rotate_left
 · rw [if_pos h2]
   rw [decide_eq_false h2] at hFi
   rw [hue] at hSt hFi ⊢
   refine PC.of_va (T := tb0) eqs_ok tb_ok rfl mixed Tryz.func16 rfl rfl (Nat.le_of_ble_eq_true rfl) ?_; intro Γ C WK LP fin h0 hW hC hB hR hLP hfin
   (try (conv => whnf)); (repeat ((first | refine qT ?_ | refine qF ?_ | refine qO ?_ | (with_reducible intro z hz); (first | (replace hz := hz (by omega); subst hz) | subst hz) | (refine CallV.mk _ (hC _ _ _ (PCw.of hSt)) (fun js hjs => ?_); subst hjs) | (refine CallV.mk _ (hC _ _ _ (PCw.of hFi)) (fun js hjs => ?_); subst hjs)); (try (conv => whnf))))
   refine hfin _ ?_
   exact .cons zero_le (.refl _)
 rw [if_neg (fun e => e h2)]
 rw [decide_eq_true h2] at hFi
 by_cases h3 : p ∈ u.ids
 rotate_left
 · rw [if_pos h3]
   rw [decide_eq_false h3] at hIn
   rw [hue] at hSt hFi hIn ⊢
   refine PC.of_va (T := tb0) eqs_ok tb_ok rfl mixed Tryz.func16 rfl rfl (Nat.le_of_ble_eq_true rfl) ?_; intro Γ C WK LP fin h0 hW hC hB hR hLP hfin
   (try (conv => whnf)); (repeat ((first | refine qT ?_ | refine qF ?_ | refine qO ?_ | (with_reducible intro z hz); (first | (replace hz := hz (by omega); subst hz) | subst hz) | (refine CallV.mk _ (hC _ _ _ (PCw.of hSt)) (fun js hjs => ?_); subst hjs) | (refine CallV.mk _ (hC _ _ _ (PCw.of hFi)) (fun js hjs => ?_); subst hjs) | (refine CallV.mk _ (hC _ _ _ (PCw.of hIn)) (fun js hjs => ?_); subst hjs)); (try (conv => whnf))))
   refine hfin _ ?_
   exact .cons zero_le (.refl _)
 rw [if_neg (fun e => e h3)]
 rw [decide_eq_true h3] at hIn
 by_cases h4 : id = u.id
 · have hi := id_eq h4.symm
   rw [if_pos h4]
   rw [hue] at hSt hFi hIn ⊢
   refine PC.of_va (T := tb0) eqs_ok tb_ok rfl mixed Tryz.func16 rfl rfl (Nat.le_of_ble_eq_true rfl) ?_; intro Γ C WK LP fin h0 hW hC hB hR hLP hfin
   (try (conv => whnf)); (repeat ((first | refine qT ?_ | refine qF ?_ | refine qO ?_ | (with_reducible intro z hz); (first | (replace hz := hz (by omega); subst hz) | subst hz) | (refine CallV.mk _ (hC _ _ _ (PCw.of hSt)) (fun js hjs => ?_); subst hjs) | (refine CallV.mk _ (hC _ _ _ (PCw.of hFi)) (fun js hjs => ?_); subst hjs) | (refine CallV.mk _ (hC _ _ _ (PCw.of hIn)) (fun js hjs => ?_); subst hjs)); (try (conv => whnf))))
   refine hfin _ ?_
   exact .cons zero_le (.refl _)
 have hi := id_ne (fun e : u.id = id => h4 e.symm)
 rw [if_neg h4]
 by_cases h5 : p ∈ y.ids
 · rw [if_pos h5]
   rw [decide_eq_true h5] at hI2
   rw [hue] at hSt hFi hIn ⊢
   refine PC.of_va (T := tb0) eqs_ok tb_ok rfl mixed Tryz.func16 rfl rfl (Nat.le_of_ble_eq_true rfl) ?_; intro Γ C WK LP fin h0 hW hC hB hR hLP hfin
   (try (conv => whnf)); (repeat ((first | refine qT ?_ | refine qF ?_ | refine qO ?_ | (with_reducible intro z hz); (first | (replace hz := hz (by omega); subst hz) | subst hz) | (refine CallV.mk _ (hC _ _ _ (PCw.of hSt)) (fun js hjs => ?_); subst hjs) | (refine CallV.mk _ (hC _ _ _ (PCw.of hFi)) (fun js hjs => ?_); subst hjs) | (refine CallV.mk _ (hC _ _ _ (PCw.of hIn)) (fun js hjs => ?_); subst hjs) | (refine CallV.mk _ (hC _ _ _ (PCw.of hI2)) (fun js hjs => ?_); subst hjs)); (try (conv => whnf))))
   refine hfin _ ?_
   exact .cons zero_le (.refl _)
 exact absurd ⟨h1, h2, h3, h4, h5⟩ hn
theorem bothM_pc (u : Ut) (id p : Trip) (z : Int) (hok : okU u) (hM : Tame u) (hc : u.count ≤ 1000) : ∃ (v : Ut) (e : Int), okU v ∧ PC Tryz.prog env0 15 [uv u, idv id, idv p, .int .i64 z] [uv v, .int .i64 e] ∧ PC Tryz.prog env0 16 [uv u, idv id, idv p, .int .i64 z] [uv v, .int .i64 e] := by
 by_cases hn : standsB u = true ∧ id ∈ u.ids ∧ p ∈ u.ids ∧ id ≠ u.id ∧ p ∉ (findU id u).ids
 · obtain ⟨h1, h2, h3, h4, h5⟩ := hn
   obtain ⟨y, q, k, c⟩ := cut_all u id hok hM (by omega) h1 h2 h4
   have hcc := c.count
   have h5y := h5
   rw [c.find] at h5y
   have hme : movE u id p z = placeE (dropU id u) p z y := by
     unfold movE
     rw [edit_stands, if_neg (by rw [h1]; decide), if_neg (fun e => e h2), if_neg (fun e => e h3), if_neg h4, if_neg h5, c.find]
   by_cases h0 : placeE (dropU id u) p z y = 0
   · obtain ⟨q2, r, j, rfl, m⟩ := ins_made (dropU id u) y p z c.ok c.tame c.ok2 c.tame2 (by omega) (by omega) (c.insE h0)
     have hR := rmove_pc u y q id p j (putAt p (insAt j y) (dropU id u)) k hok hM (by omega) c h1 h2 h3 h4 h5y (fun _ => grown_pc p j y (dropU id u).count (dropU id u) (Nat.le_refl _) (by omega) (fun w hw e => by rw [m.one w hw e]; exact m.le))
     rw [if_pos h0] at hR
     exact ⟨_, 0, m.ok, move_steps u (dropU id u) y _ id p j hok hM (by omega) (by omega) (by omega) c.tame h1 h2 h3 h4 h5y h0 c.cut m.kid, hR⟩
   · have hR := rmove_pc u y q id p z zeroU k hok hM (by omega) c h1 h2 h3 h4 h5y (fun h => absurd h h0)
     rw [if_neg h0, ← hme] at hR
     exact ⟨_, _, zero_ok, move_no_pc u id p z hok hM (by omega) (by rw [hme]; exact h0), hR⟩
 · refine ⟨_, _, zero_ok, move_no_pc u id p z hok hM (by omega) (fun h0 => hn ?_), rmove_no_pc u id p z hok hM (by omega) hn⟩
   obtain ⟨h1, h2, h3, h4, h5, _⟩ := mov_facts h0
   exact ⟨h1, h2, h3, h4, h5⟩
end Go.Proofs.YtmnbobcgjnickaaGreatDoor.Pt
namespace Go.Proofs.YtmnbobcgjnickaaGreatDoor.Pt
open Go Go.Pv Go.RowKit
set_option linter.unusedSimpArgs false
open Lab Lcs Go.Proofs.YtmnbobcgjnickaaGreatDoor Go.Proofs.YtmnbobcgjnickaaGreatDoor.Pu
set_option maxRecDepth 10000
set_option maxHeartbeats 16000000
theorem moves_pc (u : Ut) (hok : okU u) (id p : Trip) (z : Int) : PC Tryz.prog env0 4 [uv u, idv id, idv p, .int .i64 z] [.bool true] := by
 have hF := few_pc u 30 hok (by omega) (by omega)
 have hue := uv_eq u
 have hAw := awake8_pc
 by_cases hfew : fewU u 30 = true
 · rw [hfew] at hF
   obtain ⟨hc, hM, hs⟩ := few30 hfew
   obtain ⟨v, e, o1, hMo, hRm⟩ := bothM_pc u id p z hok hM (by omega)
   have hS := lsame_pc v v e e o1 o1
   rw [decide_eq_true rfl, decide_eq_true rfl] at hS
   rw [uv_eq v] at hMo hRm hS
   rw [hue] at hF hMo hRm ⊢
   refine PC.of_va (T := tb0) eqs_ok tb_ok rfl mixed Tryz.func4 rfl rfl (Nat.le_of_ble_eq_true rfl) ?_; intro Γ C WK LP fin h0 hW hC hB hR hLP hfin
   (try (conv => whnf)); (repeat ((first | refine qT ?_ | refine qF ?_ | refine qO ?_ | (with_reducible intro z hz); (first | (replace hz := hz (by omega); subst hz) | subst hz) | (refine CallV.mk _ (hC _ _ _ (PCw.of hF)) (fun js hjs => ?_); subst hjs) | (refine CallV.mk _ (hC _ _ _ (PCw.of hMo)) (fun js hjs => ?_); subst hjs) | (refine CallV.mk _ (hC _ _ _ (PCw.of hRm)) (fun js hjs => ?_); subst hjs) | (refine CallV.mk _ (hC _ _ _ (PCw.of hS)) (fun js hjs => ?_); subst hjs) | (refine CallV.mk _ (hC _ _ _ (PCw.of hAw)) (fun js hjs => ?_); subst hjs)); (try (conv => whnf))))
   exact hfin _ (ILes.refl _)
 · rw [Bool.not_eq_true] at hfew
   rw [hfew] at hF
   rw [hue] at hF ⊢
   refine PC.of_va (T := tb0) eqs_ok tb_ok rfl mixed Tryz.func4 rfl rfl (Nat.le_of_ble_eq_true rfl) ?_; intro Γ C WK LP fin h0 hW hC hB hR hLP hfin
   (try (conv => whnf)); (repeat ((first | refine qT ?_ | refine qF ?_ | refine qO ?_ | (with_reducible intro z hz); (first | (replace hz := hz (by omega); subst hz) | subst hz) | (refine CallV.mk _ (hC _ _ _ (PCw.of hF)) (fun js hjs => ?_); subst hjs) | (refine CallV.mk _ (hC _ _ _ (PCw.of hAw)) (fun js hjs => ?_); subst hjs)); (try (conv => whnf))))
   exact hfin _ (ILes.refl _)
end Go.Proofs.YtmnbobcgjnickaaGreatDoor.Pt
namespace Go.Proofs.YtmnbobcgjnickaaGreatDoor.Pt
open Go Go.Pv Go.Proofs.YtmnbobcgjnickaaGreatDoor Go.Proofs.YtmnbobcgjnickaaGreatDoor.Pu Lab Lcs Go.RowKit
theorem movesL (u : Ut) (h : Fit u) (t : Trip) (_ht : t.ok) (p : Trip) (_hp : p.ok) (z : Int) : PC Tryz.prog env0 4 [uv u, idv t, idv p, .int .i64 z] [.bool true] := moves_pc u h.ok t p z
end Go.Proofs.YtmnbobcgjnickaaGreatDoor.Pt
