/-
  Trees changed at one unit, on: what stays, counts, IDs, depths; taking out what was put in. A tree into which a subtree was put may be edited again. What a removal leaves may be edited, and takes back what was removed. Insert for small trees; what it makes can be removed again, and the other way round. An insertion can be taken back. A removal can be taken back.
-/
import Derived.Test.YtmnbobcgjnickaaGreatDoorT1
namespace Go.Proofs.YtmnbobcgjnickaaGreatDoor.Pt
open Go Go.Pv Go.RowKit
set_option linter.unusedSimpArgs false
open Lab Lcs Go.Proofs.YtmnbobcgjnickaaGreatDoor Go.Proofs.YtmnbobcgjnickaaGreatDoor.Pu
set_option maxRecDepth 10000
def Local (P : Ut → Prop) : Prop := ∀ (u : Ut) (l : List Ut), l.map keyK = u.kids.map keyK → P u → P (u.withKids l)
theorem withKids_all (u : Ut) (l : List Ut) : (u.withKids l).all = u.withKids l :: Ut.alls l := Ut.all_eq _
theorem put_key {id : Trip} {f : Ut → Ut} {u : Ut} (h : u.id = id → keyK (f u) = keyK u) : keyK (putAt id f u) = keyK u := by
 rw [putAt_eq]
 split
 · rename_i hi; exact h hi
 · rfl
theorem put_all {P : Ut → Prop} (hP : Local P) {id : Trip} {f : Ut → Ut} : ∀ (n : Nat) {u : Ut}, u.count ≤ n → (∀ z ∈ u.all, P z) → (∀ y ∈ u.all, y.id = id → keyK (f y) = keyK y ∧ ∀ z ∈ (f y).all, P z) → ∀ z ∈ (putAt id f u).all, P z
 | 0, u, hn, _, _ => by have := count_pos u; omega
 | n + 1, u, hn, h, hf => by
   rw [putAt_eq]
   by_cases hi : u.id = id
   · rw [if_pos hi]; exact (hf u (self_all u) hi).2
   · rw [if_neg hi]
     intro z hz
     rw [withKids_all] at hz
     rcases List.mem_cons.1 hz with rfl | hz
     · refine hP u _ ?_ (h u (self_all u))
       rw [List.map_map]
       refine List.map_congr_left fun k hk => ?_
       exact put_key fun e => (hf k (kid_in hk k (self_all k)) e).1
     · obtain ⟨k', hk', hz⟩ := mem_alls.1 hz
       obtain ⟨k, hk, rfl⟩ := List.mem_map.1 hk'
       exact put_all hP n (by have := kid_count hk; omega) (fun z hz => h z (kid_in hk z hz)) (fun y hy => hf y (kid_in hk y hy)) z hz
theorem local_alone : Local fun u => aloneB u = true := fun u l hl h => by
 cases u with
 | mk i k lb hd w kids =>
   have hlen : l.length = kids.length := by
     have h0 := congrArg List.length hl
     rw [List.length_map, List.length_map] at h0
     exact h0
   unfold Ut.withKids
   simp only [aloneB] at h ⊢
   rw [hlen]
   exact h
theorem local_kids : Local fun u => kidsB u = true := fun u l hl h => by
 cases u with
 | mk i k lb hd w kids =>
   have hl2 : l.map keyK = kids.map keyK := hl
   unfold Ut.withKids
   simp only [kidsB] at h ⊢
   rw [hl2]
   have : (l.all fun x => nestsB k x.kind) = (kids.all fun x => nestsB k x.kind) := by
     have e : ∀ m : List Ut, (m.all fun x => nestsB k x.kind) = (m.map keyK).all fun q => nestsB k q.1 := by
       intro m
       rw [List.all_map]
       rfl
     rw [e, e, hl2]
   show ((l.all fun x => nestsB k x.kind) && _) = true
   rw [this]
   exact h
theorem local_named : Local fun u => (decide (u.kind = 0) || decide (u.id ≠ .zero)) = true := fun _ _ _ h => h
theorem put_count {id : Trip} {f : Ut → Ut} : ∀ (n : Nat) {u p : Ut} {r : List Ut}, u.count ≤ n → u.ids.Nodup → linL id u = p :: r → (putAt id f u).count + p.count = u.count + (f p).count
 | 0, u, _, _, hn, _, _ => by have := count_pos u; omega
 | n + 1, u, p, r, hn, hnd, hl => by
   rw [putAt_eq]
   by_cases hi : u.id = id
   · rw [lin_self hi] at hl
     injection hl with h1 _
     subst h1
     rw [if_pos hi]; omega
   · have hkn : linK id u.kids ≠ [] := fun e => by rw [lin_none hi e] at hl; cases hl
     have hlu := lin_some hi hkn
     obtain ⟨k, y, hy, hk0, hly, hlk⟩ := linK_split hkn
     have hym := List.mem_of_getElem? hy
     have hnk : ((Ut.alls u.kids).map Ut.id).Nodup := by
       rw [ids_eq, List.nodup_cons] at hnd; exact hnd.2
     have hoth := drop_row hnk hy (lin_mem_id hly)
     rw [if_neg hi, withKids_count, Ut.count_eq u]
     have ih : ∃ q, linL id y = p :: q := by
       rw [hl, hlk] at hlu
       cases hq : linL id y with
       | nil => exact absurd hq hly
       | cons a b =>
         rw [hq] at hlu
         injection hlu with h1 _
         exact ⟨b, by rw [h1]⟩
     obtain ⟨q, hq⟩ := ih
     have h1 := put_count (f := f) n (by have := kid_count hym; omega) (nodup_kid hnd hym) hq
     have h2 : u.kids = u.kids.take k ++ (y :: u.kids.drop (k + 1)) := by
       obtain ⟨hk, he⟩ := List.getElem?_eq_some_iff.1 hy
       rw [← he, List.getElem_cons_drop, List.take_append_drop]
     have h3 : u.kids.map (putAt id f) = u.kids.take k ++ (putAt id f y :: u.kids.drop (k + 1)) := by
       conv => lhs; rw [h2]
       rw [List.map_append, List.map_cons]
       congr 1
       · refine map_self fun a ha => ?_
         obtain ⟨i, hi2, rfl⟩ := List.getElem_of_mem ha
         rw [List.length_take] at hi2
         exact putAt_none _ _ (Nat.le_refl _) (hoth i _ (by rw [List.getElem_take, List.getElem?_eq_getElem (by omega)]) (by omega))
       · congr 1
         refine map_self fun a ha => ?_
         obtain ⟨i, hi2, rfl⟩ := List.getElem_of_mem ha
         rw [List.length_drop] at hi2
         exact putAt_none _ _ (Nat.le_refl _) (hoth (k + 1 + i) _ (by rw [List.getElem_drop, List.getElem?_eq_getElem (by omega)]) (by omega))
     rw [h3]
     have h4 : Ut.counts u.kids = Ut.counts (u.kids.take k ++ (y :: u.kids.drop (k + 1))) := by rw [← h2]
     rw [counts_app, Ut.counts] at h4
     rw [counts_app, Ut.counts]
     omega
theorem put_kid {id : Trip} {f : Ut → Ut} {u p : Ut} {r : List Ut} (hnd : u.ids.Nodup) (hi : u.id ≠ id) (hl : linL id u = p :: r) : ∃ k y q, u.kids[k]? = some y ∧ linL id y = p :: q ∧ r = q ++ [u] ∧ (∀ i a, u.kids[i]? = some a → i ≠ k → noId id a) ∧ u.kids = u.kids.take k ++ (y :: u.kids.drop (k + 1)) ∧ putAt id f u = u.withKids (u.kids.take k ++ (putAt id f y :: u.kids.drop (k + 1))) := by
 have hkn : linK id u.kids ≠ [] := fun e => by rw [lin_none hi e] at hl; cases hl
 have hlu := lin_some hi hkn
 obtain ⟨k, y, hy, hk0, hly, hlk⟩ := linK_split hkn
 have hnk : ((Ut.alls u.kids).map Ut.id).Nodup := by
   rw [ids_eq, List.nodup_cons] at hnd; exact hnd.2
 have hoth := drop_row hnk hy (lin_mem_id hly)
 have h2 : u.kids = u.kids.take k ++ (y :: u.kids.drop (k + 1)) := by
   obtain ⟨hk, he⟩ := List.getElem?_eq_some_iff.1 hy
   rw [← he, List.getElem_cons_drop, List.take_append_drop]
 rw [hl, hlk] at hlu
 cases hq : linL id y with
 | nil => exact absurd hq hly
 | cons a b =>
   rw [hq] at hlu
   injection hlu with h1 h5
   refine ⟨k, y, b, hy, by rw [hq, h1], h5, hoth, h2, ?_⟩
   rw [putAt_eq, if_neg hi]
   congr 1
   conv => lhs; rw [h2]
   rw [List.map_append, List.map_cons]
   congr 1
   · refine map_self fun a ha => ?_
     obtain ⟨i, hi2, rfl⟩ := List.getElem_of_mem ha
     rw [List.length_take] at hi2
     exact putAt_none _ _ (Nat.le_refl _) (hoth i _ (by rw [List.getElem_take, List.getElem?_eq_getElem (by omega)]) (by omega))
   · congr 1
     refine map_self fun a ha => ?_
     obtain ⟨i, hi2, rfl⟩ := List.getElem_of_mem ha
     rw [List.length_drop] at hi2
     exact putAt_none _ _ (Nat.le_refl _) (hoth (k + 1 + i) _ (by rw [List.getElem_drop, List.getElem?_eq_getElem (by omega)]) (by omega))
theorem withKids_ids (u : Ut) (l : List Ut) : (u.withKids l).ids = u.id :: (Ut.alls l).map Ut.id := ids_eq _
theorem put_perm {id : Trip} {f : Ut → Ut} {A B : List Trip} : ∀ (n : Nat) {u p : Ut} {r : List Ut}, u.count ≤ n → u.ids.Nodup → linL id u = p :: r → ((f p).ids ++ B).Perm (p.ids ++ A) → ((putAt id f u).ids ++ B).Perm (u.ids ++ A)
 | 0, u, _, _, hn, _, _, _ => by have := count_pos u; omega
 | n + 1, u, p, r, hn, hnd, hl, hp => by
   by_cases hi : u.id = id
   · rw [lin_self hi] at hl
     injection hl with h1 _
     subst h1
     rw [putAt_eq, if_pos hi]; exact hp
   · obtain ⟨k, y, q, h1, h2, _, _, h3, h4⟩ := put_kid (f := f) hnd hi hl
     have hym := List.mem_of_getElem? h1
     have ih := put_perm n (by have := kid_count hym; omega) (nodup_kid hnd hym) h2 hp
     have e1 : u.ids = u.id :: ((Ut.alls (u.kids.take k)).map Ut.id ++ (y.ids ++ (Ut.alls (u.kids.drop (k + 1))).map Ut.id)) := by
       rw [ids_eq]
       conv => lhs; rw [h3]
       rw [alls_app, Ut.alls, List.map_append, List.map_append]
       rfl
     have e2 : (putAt id f u).ids = u.id :: ((Ut.alls (u.kids.take k)).map Ut.id ++ ((putAt id f y).ids ++ (Ut.alls (u.kids.drop (k + 1))).map Ut.id)) := by
       rw [h4, withKids_ids, alls_app, Ut.alls, List.map_append, List.map_append]
       rfl
     rw [e1, e2]
     simp only [List.cons_append, List.append_assoc]
     refine List.Perm.cons _ (List.Perm.append_left _ ?_)
     refine (List.Perm.append_left _ List.perm_append_comm).trans ?_
     refine List.Perm.trans ?_ (List.Perm.append_left _ List.perm_append_comm)
     rw [← List.append_assoc, ← List.append_assoc]
     exact List.Perm.append_right _ ih
theorem ins_perm (j : Nat) (x p : Ut) : (insAt j x p).ids.Perm (p.ids ++ x.ids) := by
 unfold insAt
 rw [withKids_ids, ids_eq p, alls_app, alls_app, alls_one, List.map_append, List.map_append]
 have e : (Ut.alls p.kids).map Ut.id = (Ut.alls (p.kids.take j)).map Ut.id ++ (Ut.alls (p.kids.drop j)).map Ut.id := by
   rw [← List.map_append, ← alls_app, List.take_append_drop]
 rw [e]
 simp only [List.cons_append, List.append_assoc]
 exact List.Perm.cons _ (List.Perm.append_left _ List.perm_append_comm)
theorem cut_perm {j : Nat} {x p : Ut} (h : p.kids[j]? = some x) : ((cutAt j p).ids ++ x.ids).Perm p.ids := by
 unfold cutAt
 have h2 : p.kids = p.kids.take j ++ (x :: p.kids.drop (j + 1)) := by
   obtain ⟨hk, he⟩ := List.getElem?_eq_some_iff.1 h
   rw [← he, List.getElem_cons_drop, List.take_append_drop]
 have e : (Ut.alls p.kids).map Ut.id = (Ut.alls (p.kids.take j)).map Ut.id ++ (x.ids ++ (Ut.alls (p.kids.drop (j + 1))).map Ut.id) := by
   conv => lhs; rw [h2]
   rw [alls_app, Ut.alls, List.map_append, List.map_append]; rfl
 rw [withKids_ids, ids_eq p, alls_app, List.map_append, e]
 simp only [List.cons_append, List.append_assoc]
 exact List.Perm.cons _ (List.Perm.append_left _ List.perm_append_comm)
theorem put_depth {id : Trip} {f : Ut → Ut} : ∀ (n : Nat) {u p : Ut} {r : List Ut}, u.count ≤ n → u.ids.Nodup → linL id u = p :: r → (putAt id f u).depth ≤ max u.depth (r.length + (f p).depth) ∧ r.length + p.depth ≤ u.depth
 | 0, u, _, _, hn, _, _ => by have := count_pos u; omega
 | n + 1, u, p, r, hn, hnd, hl => by
   by_cases hi : u.id = id
   · rw [lin_self hi] at hl
     injection hl with h1 h2
     subst h1
     subst h2
     rw [putAt_eq, if_pos hi]
     simp only [List.length_nil, Nat.zero_add]
     exact ⟨Nat.le_max_right _ _, Nat.le_refl _⟩
   · obtain ⟨k, y, q, h1, h2, h5, _, h3, h4⟩ := put_kid (f := f) hnd hi hl
     have hym := List.mem_of_getElem? h1
     obtain ⟨g1, g2⟩ := put_depth (f := f) n (by have := kid_count hym; omega) (nodup_kid hnd hym) h2
     have e1 : u.depth = max (Ut.depths (u.kids.take k)) (max (1 + y.depth) (Ut.depths (u.kids.drop (k + 1)))) := by
       have e0 : u.depth = Ut.depths u.kids := by cases u; exact depth_mk _ _ _ _ _ _
       rw [e0]
       conv => lhs; rw [h3]
       rw [depths_app, Ut.depths]
     have e2 : (putAt id f u).depth = max (Ut.depths (u.kids.take k)) (max (1 + (putAt id f y).depth) (Ut.depths (u.kids.drop (k + 1)))) := by
       rw [h4]
       unfold Ut.withKids
       rw [depth_mk, depths_app, Ut.depths]
     rw [e1, e2, h5]
     simp only [List.length_append, List.length_cons, List.length_nil]
     simp only [Nat.max_def] at g1 ⊢
     constructor
     · repeat' split
       all_goals (try split at g1)
       all_goals omega
     · repeat' split
       all_goals omega
theorem put_put {id : Trip} {f g : Ut → Ut} : ∀ (n : Nat) {u : Ut}, u.count ≤ n → (∀ y ∈ u.all, y.id = id → (f y).id = id) → putAt id g (putAt id f u) = putAt id (fun y => g (f y)) u
 | 0, u, hn, _ => by have := count_pos u; omega
 | n + 1, u, hn, h => by
   rw [putAt_eq id f u, putAt_eq id (fun y => g (f y)) u]
   by_cases hi : u.id = id
   · rw [if_pos hi, if_pos hi, putAt_eq, if_pos (h u (self_all u) hi)]
   · rw [if_neg hi, if_neg hi, putAt_eq, if_neg (show ¬ (u.withKids (u.kids.map (putAt id f))).id = id from hi)]
     show u.withKids ((u.kids.map (putAt id f)).map (putAt id g)) = _
     rw [List.map_map]
     congr 1
     exact List.map_congr_left fun k hk => put_put n (by have := kid_count hk; omega) fun y hy => h y (kid_in hk y hy)
theorem put_id {id : Trip} {f : Ut → Ut} : ∀ (n : Nat) {u : Ut}, u.count ≤ n → (∀ y ∈ u.all, y.id = id → f y = y) → putAt id f u = u
 | 0, u, hn, _ => by have := count_pos u; omega
 | n + 1, u, hn, h => by
   rw [putAt_eq]
   by_cases hi : u.id = id
   · rw [if_pos hi]; exact h u (self_all u) hi
   · rw [if_neg hi, map_self fun k hk => put_id n (by have := kid_count hk; omega) fun y hy => h y (kid_in hk y hy), withKids_self]
theorem drop_ins {id : Trip} {x : Ut} {j : Nat} : ∀ (n : Nat) {u : Ut}, u.count ≤ n → noId x.id u → dropU x.id (putAt id (insAt j x) u) = u
 | 0, u, hn, _ => by have := count_pos u; omega
 | n + 1, u, hn, h => by
   rw [putAt_eq]
   by_cases hi : u.id = id
   · rw [if_pos hi, dropU_eq]
     have hk : ∀ k ∈ u.kids, noId x.id k := noId_kids h
     have hf : (insAt j x u).kids.filter (fun k => decide (k.id ≠ x.id)) = u.kids := by
       show ((u.kids.take j ++ [x] ++ u.kids.drop j).filter _) = _
       rw [List.filter_append, List.filter_append]
       have h1 : [x].filter (fun k => decide (k.id ≠ x.id)) = [] := by simp
       rw [h1, List.append_nil, ← List.filter_append, List.take_append_drop]
       exact List.filter_eq_self.2 fun k hk2 => by rw [decide_eq_true_eq]; exact noId_self (hk k hk2)
     rw [hf, map_self fun k hk2 => dropU_none k.count k (Nat.le_refl _) fun y hy => hk k hk2 y (by rw [Ut.all_eq]; exact List.mem_cons_of_mem _ hy)]
     exact withKids_self u
   · rw [if_neg hi, dropU_eq]
     show u.withKids (((u.kids.map (putAt id (insAt j x))).filter _).map (dropU x.id)) = u
     have hid : ∀ k ∈ u.kids, (putAt id (insAt j x) k).id = k.id := by
       intro k hk
       rw [putAt_eq]
       split <;> rfl
     have hf : (u.kids.map (putAt id (insAt j x))).filter (fun k => decide (k.id ≠ x.id)) = u.kids.map (putAt id (insAt j x)) := List.filter_eq_self.2 fun k hk => by
       obtain ⟨k0, hk0, rfl⟩ := List.mem_map.1 hk
       rw [decide_eq_true_eq, hid k0 hk0]
       exact noId_self (noId_kids h k0 hk0)
     rw [hf, List.map_map, map_self (g := dropU x.id ∘ putAt id (insAt j x)) fun k hk => drop_ins n (by have := kid_count hk; omega) (noId_kids h k hk), withKids_self]
end Go.Proofs.YtmnbobcgjnickaaGreatDoor.Pt
namespace Go.Proofs.YtmnbobcgjnickaaGreatDoor.Pt
open Go Go.Pv Go.RowKit
set_option linter.unusedSimpArgs false
open Lab Lcs Go.Proofs.YtmnbobcgjnickaaGreatDoor Go.Proofs.YtmnbobcgjnickaaGreatDoor.Pu
set_option maxRecDepth 10000
theorem stands_facts {u : Ut} (h : standsB u = true) : validB u = true ∧ u.ids.Nodup ∧ (u.id = .zero ↔ u.kind = 0) ∧ ∀ x ∈ u.all, (decide (x.kind = 0) || decide (x.id ≠ .zero)) = true := by
 have hn := stands_nodup h
 unfold standsB at h
 rw [Bool.and_eq_true] at h
 obtain ⟨hv, hm⟩ := h
 have hv' := hv
 unfold namedB at hm
 rw [List.all_eq_true] at hm
 refine ⟨hv, hn, ?_, hm⟩
 have h1 := hm u (self_all u)
 simp only [Bool.or_eq_true, decide_eq_true_eq] at h1
 unfold validB idsB at hv'
 simp only [Bool.and_eq_true, Bool.or_eq_true, decide_eq_true_eq, beq_iff_eq] at hv'
 rcases hv'.2 with h2 | h2
 · unfold zeroIds at h2
   have h3 := List.all_eq_true.1 h2 u (self_all u)
   simp only [decide_eq_true_eq] at h3
   exact ⟨fun _ => h1.resolve_right fun h => h h3, fun _ => h3⟩
 · have h3 := h2.2
   constructor
   · intro e; rw [decide_eq_true e] at h3; simpa using h3.symm
   · intro e; rw [decide_eq_true e] at h3; simpa using h3
theorem stands_of {u : Ut} (h1 : u.count ≤ 1024) (h2 : u.depth ≤ 8) (h3 : ∀ x ∈ u.all, aloneB x = true) (h4 : ∀ x ∈ u.all, kidsB x = true) (h5 : u.ids.Nodup) (h6 : u.id = .zero ↔ u.kind = 0) (h7 : ∀ x ∈ u.all, (decide (x.kind = 0) || decide (x.id ≠ .zero)) = true) : standsB u = true := by
 unfold standsB validB idsB namedB
 simp only [Bool.and_eq_true, Bool.or_eq_true, decide_eq_true_eq, List.all_eq_true, beq_iff_eq]
 refine ⟨⟨⟨⟨⟨h1, h2⟩, h3⟩, h4⟩, Or.inr ⟨h5, ?_⟩⟩, fun x hx => by simpa using h7 x hx⟩
 by_cases e : u.id = .zero
 · rw [decide_eq_true e, decide_eq_true (h6.1 e)]
 · rw [decide_eq_false e, decide_eq_false fun h => e (h6.2 h)]
theorem put_root {id : Trip} {f : Ut → Ut} {u : Ut} (hi : ∀ y, (f y).id = y.id) (hk : ∀ y, (f y).kind = y.kind) : (putAt id f u).id = u.id ∧ (putAt id f u).kind = u.kind := by
 rw [putAt_eq]
 split
 · exact ⟨hi u, hk u⟩
 · exact ⟨rfl, rfl⟩
theorem ins_alls {j : Nat} {x q z : Ut} (h : z ∈ Ut.alls (q.kids.take j ++ [x] ++ q.kids.drop j)) : z ∈ Ut.alls q.kids ∨ z ∈ x.all := by
 obtain ⟨k, hk, hz⟩ := mem_alls.1 h
 rcases List.mem_append.1 hk with hk | hk
 · rcases List.mem_append.1 hk with hk | hk
   · exact Or.inl (mem_alls.2 ⟨k, List.mem_of_mem_take hk, hz⟩)
   · rw [List.mem_singleton.1 hk] at hz; exact Or.inr hz
 · exact Or.inl (mem_alls.2 ⟨k, List.mem_of_mem_drop hk, hz⟩)
theorem ins_perm_kids (j : Nat) (x : Ut) (l : List Ut) : (l.take j ++ [x] ++ l.drop j).Perm (x :: l) := by
 rw [List.append_assoc]
 refine List.perm_middle.trans ?_
 show (x :: (l.take j ++ l.drop j)).Perm (x :: l)
 rw [List.take_append_drop]
theorem alone_ins {j : Nat} {x q : Ut} (h : aloneB q = true) (hl : q.kids.length < 64) : aloneB (insAt j x q) = true := by
 cases q with
 | mk i k l hd w kids =>
 unfold insAt Ut.withKids aloneB at *
 simp only [Bool.and_eq_true, decide_eq_true_eq] at h ⊢
 refine ⟨?_, h.2⟩
 have := (ins_perm_kids j x kids).length_eq
 show (kids.take j ++ [x] ++ kids.drop j).length ≤ 64
 rw [this]
 have : kids.length < 64 := hl
 simp only [List.length_cons]
 omega
theorem kids_ins {j : Nat} {x q : Ut} (h : kidsB q = true) (hn : nestsB q.kind x.kind = true) (ht : takenB q.kids x.kind x.label = false) : kidsB (insAt j x q) = true := by
 cases q with
 | mk i k l hd w kids =>
 unfold insAt Ut.withKids kidsB at *
 simp only [Bool.and_eq_true, decide_eq_true_eq, List.all_eq_true] at h ⊢
 have hp := ins_perm_kids j x kids
 refine ⟨fun z hz => ?_, ?_⟩
 · rcases List.mem_cons.1 ((hp.mem_iff).1 hz) with rfl | hz
   · exact hn
   · exact h.1 z hz
 · refine ((hp.map keyK).nodup_iff).2 ?_
   rw [List.map_cons, List.nodup_cons]
   refine ⟨fun hm => ?_, h.2⟩
   obtain ⟨z, hz, he⟩ := List.mem_map.1 hm
   unfold takenB at ht
   have := List.any_eq_false.1 ht z hz
   unfold keyK at he
   simp only [Prod.mk.injEq] at he
   simp [he.1, he.2] at this
theorem ins_stands {u x q : Ut} {p : Trip} {r : List Ut} {j : Nat} (hu : standsB u = true) (hx : standsB x = true) (hl : linL p u = q :: r) (hn : nestsB q.kind x.kind = true) (ht : takenB q.kids x.kind x.label = false) (h64 : q.kids.length < 64) (hc : u.count + x.count ≤ 1024) (hd : r.length + 1 + x.depth ≤ 8) (hdis : ∀ t ∈ x.ids, t ∉ u.ids) :
   standsB (putAt p (insAt j x) u) = true ∧ (putAt p (insAt j x) u).count = u.count + x.count ∧ (putAt p (insAt j x) u).ids.Perm (u.ids ++ x.ids) := by
 obtain ⟨hv, hnd, hz, hm⟩ := stands_facts hu
 obtain ⟨hv2, hnd2, _, hm2⟩ := stands_facts hx
 obtain ⟨f1, f2, f3, f4⟩ := valid_facts hv
 obtain ⟨g1, g2, g3, g4⟩ := valid_facts hv2
 obtain ⟨hqi, hqm⟩ := lin_head u.count (Nat.le_refl _) q r hl
 have hone : ∀ y ∈ u.all, y.id = p → y = q := fun y hy e => ids_inj hnd hy hqm (by rw [e, hqi])
 have hkq : ∀ z ∈ Ut.alls q.kids, z ∈ u.all := fun z hz => by
   obtain ⟨k, hk, hz⟩ := mem_alls.1 hz
   exact all_trans u.count u q (Nat.le_refl _) hqm z (by rw [Ut.all_eq]; exact List.mem_cons_of_mem _ (mem_alls.2 ⟨k, hk, hz⟩))
 have hcount := put_count (f := insAt j x) u.count (Nat.le_refl _) hnd hl
 rw [insAt_count] at hcount
 have hdep := put_depth (f := insAt j x) u.count (Nat.le_refl _) hnd hl
 have hperm : (putAt p (insAt j x) u).ids.Perm (u.ids ++ x.ids) := by
   have := put_perm (f := insAt j x) (A := x.ids) (B := []) u.count (Nat.le_refl _) hnd hl (by rw [List.append_nil]; exact ins_perm j x q)
   rw [List.append_nil] at this
   exact this
 have hdq : (insAt j x q).depth ≤ max q.depth (1 + x.depth) := by
   unfold insAt Ut.withKids
   rw [depth_mk, depths_app, depths_app, depths_one]
   have e : q.depth = Ut.depths q.kids := by cases q; exact depth_mk _ _ _ _ _ _
   have h1 : max (Ut.depths (q.kids.take j)) (Ut.depths (q.kids.drop j)) = Ut.depths q.kids := by rw [← depths_app, List.take_append_drop]
   omega
 have hall : ∀ {P : Ut → Prop}, Local P → (∀ z ∈ u.all, P z) → (∀ z ∈ x.all, P z) → P (insAt j x q) → ∀ z ∈ (putAt p (insAt j x) u).all, P z := by
   intro P hP h1 h2 h3
   refine put_all hP u.count (Nat.le_refl _) h1 fun y hy he => ?_
   rw [hone y hy he]
   refine ⟨rfl, fun z hz => ?_⟩
   have hz2 : z ∈ insAt j x q :: Ut.alls (q.kids.take j ++ [x] ++ q.kids.drop j) := by
     have := Ut.all_eq (insAt j x q)
     rw [this] at hz
     exact hz
   rcases List.mem_cons.1 hz2 with rfl | hz2
   · exact h3
   · rcases ins_alls hz2 with h | h
     · exact h1 z (hkq z h)
     · exact h2 z h
 have hroot := put_root (id := p) (f := insAt j x) (u := u) (fun _ => rfl) (fun _ => rfl)
 refine ⟨stands_of (by omega) (by omega) (hall local_alone f3 g3 (alone_ins (f3 q hqm) h64)) (hall local_kids f4 g4 (kids_ins (f4 q hqm) hn ht)) ?_ (by rw [hroot.1, hroot.2]; exact hz) (hall local_named hm hm2 (hm q hqm)), by omega, hperm⟩
 refine (hperm.nodup_iff).2 ?_
 rw [List.nodup_append]
 exact ⟨hnd, hnd2, fun a ha b hb e => hdis b hb (e ▸ ha)⟩
end Go.Proofs.YtmnbobcgjnickaaGreatDoor.Pt
namespace Go.Proofs.YtmnbobcgjnickaaGreatDoor.Pt
open Go Go.Pv Go.RowKit
set_option linter.unusedSimpArgs false
open Lab Lcs Go.Proofs.YtmnbobcgjnickaaGreatDoor Go.Proofs.YtmnbobcgjnickaaGreatDoor.Pu
set_option maxRecDepth 10000
theorem linK_no {id : Trip} : ∀ {l : List Ut}, (∀ x ∈ l, noId id x) → linK id l = []
 | [], _ => rfl
 | a :: r, h => by
   rw [linK, lin_of_no (h a List.mem_cons_self)]
   exact linK_no fun x hx => h x (List.mem_cons_of_mem _ hx)
theorem lin_put {id : Trip} {f : Ut → Ut} (hf : ∀ y, (f y).id = y.id) : ∀ (n : Nat) {u p : Ut} {r : List Ut}, u.count ≤ n → u.ids.Nodup → linL id u = p :: r → ∃ r', linL id (putAt id f u) = f p :: r' ∧ r'.length = r.length
 | 0, u, _, _, hn, _, _ => by have := count_pos u; omega
 | n + 1, u, p, r, hn, hnd, hl => by
   by_cases hi : u.id = id
   · rw [lin_self hi] at hl
     simp only [List.cons.injEq] at hl
     obtain ⟨rfl, rfl⟩ := hl
     rw [putAt_eq, if_pos hi]
     exact ⟨[], lin_self (by rw [hf, hi]), rfl⟩
   · obtain ⟨k, y, q, h1, h2, h3, h4, h5, h6⟩ := put_kid (f := f) hnd hi hl
     have hym := List.mem_of_getElem? h1
     obtain ⟨q', g1, g2⟩ := lin_put hf n (by have := kid_count hym; omega) (nodup_kid hnd hym) h2
     have hk : k < u.kids.length := (List.getElem?_eq_some_iff.1 h1).1
     have hne : ∀ z ∈ u.kids.take k, noId id z := fun z hz => by
       obtain ⟨i, hi, rfl⟩ := List.getElem_of_mem hz
       rw [List.length_take] at hi
       exact h4 i _ (by rw [List.getElem_take, List.getElem?_eq_getElem (by omega)]) (by omega)
     rw [h6]
     have hkk : linK id (u.kids.take k ++ (putAt id f y :: u.kids.drop (k + 1))) = f p :: q' := by
       rw [linK_app id _ _ (linK_no hne), linK, g1]
       rfl
     have hw : linL id (u.withKids (u.kids.take k ++ (putAt id f y :: u.kids.drop (k + 1)))) = linK id (u.kids.take k ++ (putAt id f y :: u.kids.drop (k + 1))) ++ [u.withKids (u.kids.take k ++ (putAt id f y :: u.kids.drop (k + 1)))] :=
       lin_some (show (u.withKids _).id ≠ id from hi) (by show linK id (u.kids.take k ++ (putAt id f y :: u.kids.drop (k + 1))) ≠ []; rw [hkk]; simp)
     rw [hw, hkk]
     refine ⟨q' ++ [u.withKids (u.kids.take k ++ (putAt id f y :: u.kids.drop (k + 1)))], rfl, ?_⟩
     rw [h3, List.length_append, List.length_append, g2]
     rfl
theorem cut_alls {j : Nat} {q z : Ut} (h : z ∈ Ut.alls (q.kids.take j ++ q.kids.drop (j + 1))) : z ∈ Ut.alls q.kids := by
 obtain ⟨k, hk, hz⟩ := mem_alls.1 h
 rcases List.mem_append.1 hk with hk | hk
 · exact mem_alls.2 ⟨k, List.mem_of_mem_take hk, hz⟩
 · exact mem_alls.2 ⟨k, List.mem_of_mem_drop hk, hz⟩
theorem cut_sub (j : Nat) (l : List Ut) : (l.take j ++ l.drop (j + 1)).Sublist l := by
 conv => rhs; rw [← List.take_append_drop j l]
 refine List.Sublist.append (List.Sublist.refl _) ?_
 have : l.drop (j + 1) = (l.drop j).drop 1 := by rw [List.drop_drop]
 rw [this]
 exact List.drop_sublist 1 _
theorem alone_cut {j : Nat} {q : Ut} (h : aloneB q = true) : aloneB (cutAt j q) = true := by
 cases q with
 | mk i k l hd w kids =>
 unfold cutAt Ut.withKids aloneB at *
 simp only [Bool.and_eq_true, decide_eq_true_eq] at h ⊢
 exact ⟨Nat.le_trans (cut_sub j kids).length_le h.1, h.2⟩
theorem kids_cut {j : Nat} {q : Ut} (h : kidsB q = true) : kidsB (cutAt j q) = true := by
 cases q with
 | mk i k l hd w kids =>
 unfold cutAt Ut.withKids kidsB at *
 simp only [Bool.and_eq_true, decide_eq_true_eq, List.all_eq_true] at h ⊢
 exact ⟨fun z hz => h.1 z ((cut_sub j kids).subset hz), ((cut_sub j kids).map keyK).nodup h.2⟩
theorem cut_depth (j : Nat) (q : Ut) : (cutAt j q).depth ≤ q.depth := by
 unfold cutAt Ut.withKids
 rw [depth_mk, depths_app]
 have e : q.depth = Ut.depths q.kids := by cases q; exact depth_mk _ _ _ _ _ _
 have h1 : max (Ut.depths (q.kids.take j)) (Ut.depths (q.kids.drop j)) = Ut.depths q.kids := by rw [← depths_app, List.take_append_drop]
 have h2 : max (Ut.depths ((q.kids.drop j).take 1)) (Ut.depths ((q.kids.drop j).drop 1)) = Ut.depths (q.kids.drop j) := by rw [← depths_app, List.take_append_drop]
 rw [List.drop_drop] at h2
 omega
theorem cut_stands {u y p : Ut} {r : List Ut} {j : Nat} (hu : standsB u = true) (hp : linL p.id u = p :: r) (hpm : p ∈ u.all) (hj : p.kids[j]? = some y) :
   standsB (putAt p.id (cutAt j) u) = true ∧ (putAt p.id (cutAt j) u).count + y.count = u.count ∧ ((putAt p.id (cutAt j) u).ids ++ y.ids).Perm u.ids ∧ standsB y = true ∧ y.kind ≠ 0 ∧ r.length + 1 + y.depth ≤ 8 := by
 obtain ⟨hv, hnd, hz, hm⟩ := stands_facts hu
 obtain ⟨f1, f2, f3, f4⟩ := valid_facts hv
 have hym : y ∈ p.kids := List.mem_of_getElem? hj
 have hyu : ∀ z ∈ y.all, z ∈ u.all := fun z hz => all_trans u.count u p (Nat.le_refl _) hpm z (kid_in hym z hz)
 have hone : ∀ q ∈ u.all, q.id = p.id → q = p := fun q hq e => ids_inj hnd hq hpm e
 have hkq : ∀ z ∈ Ut.alls p.kids, z ∈ u.all := fun z hz => by
   obtain ⟨k, hk, hz⟩ := mem_alls.1 hz
   exact all_trans u.count u p (Nat.le_refl _) hpm z (by rw [Ut.all_eq]; exact List.mem_cons_of_mem _ (mem_alls.2 ⟨k, hk, hz⟩))
 have hcount := put_count (f := cutAt j) u.count (Nat.le_refl _) hnd hp
 have hdep := put_depth (f := cutAt j) u.count (Nat.le_refl _) hnd hp
 have hcd := cut_depth j p
 have hperm : ((putAt p.id (cutAt j) u).ids ++ y.ids).Perm u.ids := by
   have := put_perm (f := cutAt j) (A := []) (B := y.ids) u.count (Nat.le_refl _) hnd hp (by rw [List.append_nil]; exact cut_perm hj)
   rw [List.append_nil] at this
   exact this
 have hlen : ∀ w : Ut, w.ids.length = w.count := fun w => by unfold Ut.ids; rw [List.length_map, all_length]
 have hcnt : (putAt p.id (cutAt j) u).count + y.count = u.count := by
   have := hperm.length_eq
   rw [List.length_append, hlen, hlen, hlen] at this
   exact this
 have hnd2 : ((putAt p.id (cutAt j) u).ids ++ y.ids).Nodup := (hperm.nodup_iff).2 hnd
 have hall : ∀ {P : Ut → Prop}, Local P → (∀ z ∈ u.all, P z) → P (cutAt j p) → ∀ z ∈ (putAt p.id (cutAt j) u).all, P z := by
   intro P hP h1 h3
   refine put_all hP u.count (Nat.le_refl _) h1 fun q hq he => ?_
   rw [hone q hq he]
   refine ⟨rfl, fun z hz => ?_⟩
   have hz2 : z ∈ cutAt j p :: Ut.alls (p.kids.take j ++ p.kids.drop (j + 1)) := by
     have := Ut.all_eq (cutAt j p)
     rw [this] at hz
     exact hz
   rcases List.mem_cons.1 hz2 with rfl | hz2
   · exact h3
   · exact h1 z (hkq z (cut_alls hz2))
 have hroot := put_root (id := p.id) (f := cutAt j) (u := u) (fun _ => rfl) (fun _ => rfl)
 have hyk : y.kind ≠ 0 := by
   have := nests_kind ((kids_facts (f4 p hpm)).2 y hym)
   omega
 have hyd : 1 + y.depth ≤ p.depth := by
   have := depth_kid hj
   have e : p.depth = Ut.depths p.kids := by cases p; exact depth_mk _ _ _ _ _ _
   omega
 have hyid : y.id ≠ .zero := by
   have := hm y (hyu y (self_all y))
   simp only [Bool.or_eq_true, decide_eq_true_eq] at this
   exact this.resolve_left hyk
 refine ⟨stands_of (by omega) (by omega) (hall local_alone f3 (alone_cut (f3 p hpm))) (hall local_kids f4 (kids_cut (f4 p hpm))) (List.nodup_append.1 hnd2).1 (by rw [hroot.1, hroot.2]; exact hz) (hall local_named hm (hm p hpm)), hcnt, hperm, ?_, hyk, by omega⟩
 exact stands_of (by omega) (by omega) (fun z hz => f3 z (hyu z hz)) (fun z hz => f4 z (hyu z hz)) (List.nodup_append.1 hnd2).2.1 ⟨fun e => absurd e hyid, fun e => absurd e hyk⟩ fun z hz => hm z (hyu z hz)
end Go.Proofs.YtmnbobcgjnickaaGreatDoor.Pt
namespace Go.Proofs.YtmnbobcgjnickaaGreatDoor.Pt
open Go Go.Pv Go.RowKit
set_option linter.unusedSimpArgs false
open Lab Lcs Go.Proofs.YtmnbobcgjnickaaGreatDoor Go.Proofs.YtmnbobcgjnickaaGreatDoor.Pu
set_option maxRecDepth 10000
theorem edok_ins {id : Trip} {j : Nat} {x : Ut} : ∀ (n : Nat) {u : Ut}, u.count + x.count ≤ n → Fresh1 id (insAt j x) x.count u → (∀ y ∈ u.all, y.id = id → j ≤ y.kids.length) → (∀ y ∈ u.all, lens y ∧ y.kids.length < 1000000) → (∀ y ∈ x.all, lens y) → EdOk id (insAt j x) (insD j) n u
 | 0, u, hn, _, _, _, _ => by have := count_pos u; omega
 | n + 1, u, hn, hf, hD, hl, hx => by
   rw [EdOk]
   refine ⟨fun hi => ⟨hD u (self_all u) hi, (hl u (self_all u)).1.2.2⟩, ?_, fun k hk => ?_⟩
   · by_cases hi : u.id = id
     · rw [if_pos hi]
       obtain ⟨⟨g1, g2, g3⟩, g4⟩ := hl u (self_all u)
       refine ⟨g1, g2, ?_⟩
       show (u.kids.take j ++ [x] ++ u.kids.drop j).length ≤ 1000000
       have := (ins_perm_kids j x u.kids).length_eq
       rw [this, List.length_cons]
       omega
     · rw [if_neg hi]
       exact (hl u (self_all u)).1
   · by_cases hi : u.id = id
     · rw [if_pos hi] at hk
       have hfr := (hf u (self_all u) hi).2 k hk
       have hk2 : k ∈ u.kids.take j ++ [x] ++ u.kids.drop j := hk
       rcases List.mem_cons.1 ((ins_perm_kids j x u.kids).mem_iff.1 hk2) with rfl | hku
       · exact edok_none n (by have := count_pos u; omega) hfr hx
       · exact edok_none n (by have := kid_count hku; omega) hfr fun y hy => (hl y (kid_in hku y hy)).1
     · rw [if_neg hi] at hk
       exact edok_ins n (by have := kid_count hk; omega) (hf.kid hk) (fun y hy => hD y (kid_in hk y hy)) (fun y hy => hl y (kid_in hk y hy)) hx
theorem lens_of {u : Ut} (hM : Tame u) (hc : u.count ≤ 10000) : ∀ y ∈ u.all, lens y ∧ y.kids.length < 1000000 := fun y hy => by
 have h1 := all_count hy
 have h2 := kids_counts y.kids
 have h3 := Ut.count_eq y
 exact ⟨⟨(hM.2 y hy).2.1, (hM.2 y hy).2.2, by omega⟩, by omega⟩
theorem insE_facts {u x : Ut} {p : Trip} {z : Int} (h : insE u p z x = 0) : standsB u = true ∧ standsB x = true ∧ x.kind ≠ 0 ∧ ∃ (q : Ut) (r : List Ut) (j : Nat), linL p u = q :: r ∧ z = (j : Int) ∧ j ≤ q.kids.length ∧ nestsB q.kind x.kind = true ∧ takenB q.kids x.kind x.label = false ∧ q.kids.length < 64 ∧ u.count + x.count ≤ 1024 ∧ r.length + 1 + x.depth ≤ 8 ∧ ∀ t ∈ x.ids, t ∉ u.ids := by
 unfold insE at h
 by_cases h1 : editB u = false
 · rw [if_pos h1] at h; cases h
 rw [if_neg h1] at h
 by_cases h2 : editB x = false
 · rw [if_pos h2] at h; cases h
 rw [if_neg h2] at h
 by_cases h3 : x.kind = 0
 · rw [if_pos h3] at h; cases h
 rw [if_neg h3] at h
 by_cases h4 : placeE u p z x = 0
 rotate_left
 · rw [if_pos h4] at h; exact absurd h h4
 rw [if_neg (fun e => e h4)] at h
 by_cases h5 : (x.ids.any fun t => decide (t ∈ u.ids)) = true
 · rw [if_pos h5] at h; cases h
 rw [Bool.not_eq_false, edit_stands] at h1 h2
 refine ⟨h1, h2, h3, ?_⟩
 unfold placeE at h4
 by_cases k1 : foundB p u = false
 · rw [if_pos k1] at h4; cases h4
 rw [if_neg k1] at h4
 by_cases k2 : nestsB (findU p u).kind x.kind = false
 · rw [if_pos k2] at h4; cases h4
 rw [if_neg k2] at h4
 by_cases k3 : z < 0 ∨ ((findU p u).kids.length : Int) < z
 · rw [if_pos k3] at h4; cases h4
 rw [if_neg k3] at h4
 by_cases k4 : takenB (findU p u).kids x.kind x.label = true
 · rw [if_pos k4] at h4; cases h4
 rw [if_neg k4] at h4
 by_cases k5 : 64 ≤ (findU p u).kids.length ∨ 1024 < u.count + x.count ∨ 8 < (ancL p u).length + 1 + x.depth
 · rw [if_pos k5] at h4; cases h4
 cases hq : linL p u with
 | nil => unfold foundB at k1; rw [hq] at k1; exact absurd rfl k1
 | cons q r =>
   have e1 : findU p u = q := by unfold findU; rw [hq]
   have e2 : (ancL p u).length = r.length := by unfold ancL; rw [hq]; simp
   rw [e1] at k2 k3 k4 k5
   rw [e2] at k5
   refine ⟨q, r, z.toNat, rfl, by omega, by omega, by simpa using k2, by simpa using k4, by omega, by omega, by omega, fun t ht hm => h5 (List.any_eq_true.2 ⟨t, ht, decide_eq_true hm⟩)⟩
end Go.Proofs.YtmnbobcgjnickaaGreatDoor.Pt
namespace Go.Proofs.YtmnbobcgjnickaaGreatDoor.Pt
open Go Go.Pv Go.RowKit
set_option linter.unusedSimpArgs false
open Lab Lcs Go.Proofs.YtmnbobcgjnickaaGreatDoor Go.Proofs.YtmnbobcgjnickaaGreatDoor.Pu
set_option maxRecDepth 10000
theorem ins_all {u x q : Ut} {p : Trip} {r : List Ut} {j : Nat} (hnd : u.ids.Nodup) (hl : linL p u = q :: r) {P : Ut → Prop} (hP : Local P) (h1 : ∀ z ∈ u.all, P z) (h2 : ∀ z ∈ x.all, P z) (h3 : P q → P (insAt j x q)) : ∀ z ∈ (putAt p (insAt j x) u).all, P z := by
 obtain ⟨hqi, hqm⟩ := lin_head u.count (Nat.le_refl _) q r hl
 refine put_all hP u.count (Nat.le_refl _) h1 fun y hy he => ?_
 obtain rfl : y = q := ids_inj hnd hy hqm (by rw [he, hqi])
 refine ⟨rfl, fun z hz => ?_⟩
 have hz2 : z ∈ insAt j x y :: Ut.alls (y.kids.take j ++ [x] ++ y.kids.drop j) := by
   have := Ut.all_eq (insAt j x y)
   rw [this] at hz
   exact hz
 rcases List.mem_cons.1 hz2 with rfl | hz2
 · exact h3 (h1 y hy)
 · rcases ins_alls hz2 with h | h
   · obtain ⟨k, hk, h⟩ := mem_alls.1 h
     exact h1 z (all_trans u.count u y (Nat.le_refl _) hy z (by rw [Ut.all_eq]; exact List.mem_cons_of_mem _ (mem_alls.2 ⟨k, hk, h⟩)))
   · exact h2 z h
theorem find_kids (p : Trip) (u : Ut) : (findU p u).kids.length ≤ u.count := by
 unfold findU
 cases hq : linL p u with
 | nil => exact Nat.zero_le _
 | cons q r =>
   obtain ⟨_, h2⟩ := lin_head u.count (Nat.le_refl _) q r hq
   have h3 := all_count h2
   have h4 := kids_counts q.kids
   have h5 := Ut.count_eq q
   show q.kids.length ≤ u.count
   omega
theorem anc_le (p : Trip) (u : Ut) : (ancL p u).length ≤ u.count := by
 unfold ancL
 rw [List.length_map, List.length_drop]
 have := lin_len p u
 omega
theorem small_tame {u : Ut} (h : Tame u) : small u := fun x hx => ⟨by have := (h.2 x hx).2.1; omega, by have := (h.2 x hx).2.2; omega⟩
theorem ie_pc (u x : Ut) (p : Trip) (z : Int) (hok : okU u) (hM : Tame u) (hok2 : okU x) (hM2 : Tame x) (hc : u.count ≤ 10000) (hx : x.count ≤ 10000) : PC Tryz.prog env0 32 [uv u, idv p, .int .i64 z, uv x] [.int .i64 (insE u p z x)] :=
 insertError_pc u p z x hok hM hok2 hM2 (small_tame hM) (by omega) (by omega) (by have := depth_count x; omega) (by have := find_kids p u; omega) (by have := anc_le p u; omega)
structure Made (u x : Ut) (p : Trip) (q : Ut) (r : List Ut) (j : Nat) : Prop where
 lin : linL p u = q :: r
 le : j ≤ q.kids.length
 ok : okU (putAt p (insAt j x) u)
 tame : Tame (putAt p (insAt j x) u)
 stands : standsB (putAt p (insAt j x) u) = true
 count : (putAt p (insAt j x) u).count ≤ 1024
 self : x ∈ (putAt p (insAt j x) u).all
 ne : x.id ≠ (putAt p (insAt j x) u).id
 fresh : Fresh1 p (insAt j x) x.count u
 one : ∀ y ∈ u.all, y.id = p → y = q
 find : findU x.id (putAt p (insAt j x) u) = x
 drop : dropU x.id (putAt p (insAt j x) u) = u
 at' : insAt j x q ∈ (putAt p (insAt j x) u).all
 ids : ∀ t ∈ u.ids, t ∈ (putAt p (insAt j x) u).ids
 kid : PC Tryz.prog env0 33 [uv u, idv p, .int .i64 (j : Nat), uv x] [uv (putAt p (insAt j x) u)]
theorem ins_made (u x : Ut) (p : Trip) (z : Int) (hok : okU u) (hM : Tame u) (hok2 : okU x) (hM2 : Tame x) (hc : u.count ≤ 1024) (hx : x.count ≤ 1024) (h : insE u p z x = 0) : ∃ (q : Ut) (r : List Ut) (j : Nat), z = (j : Int) ∧ Made u x p q r j := by
 obtain ⟨hu, hsx, hxk, q, r, j, hl, rfl, hj, hn, ht, h64, hcc, hd, hdis⟩ := insE_facts h
 have hnd := stands_nodup hu
 obtain ⟨hqi, hqm⟩ := lin_head u.count (Nat.le_refl _) q r hl
 have hpu : p ∈ u.ids := List.mem_map.2 ⟨q, hqm, hqi⟩
 have hno : noId p x := fun w hw e => hdis w.id (List.mem_map.2 ⟨w, hw, rfl⟩) (e ▸ hpu)
 have hfr : Fresh1 p (insAt j x) x.count u := fresh_ins hnd hno
 have hone : ∀ y ∈ u.all, y.id = p → y = q := fun y hy e => ids_inj hnd hy hqm (by rw [e, hqi])
 have hlu := lens_of hM (by omega)
 have hlx := fun y hy => (lens_of hM2 (by omega) y hy).1
 have hWk := withKid_pc p u x j (u.count + x.count) (edok_ins (u.count + x.count) (Nat.le_refl _) hfr (fun y hy e => by rw [hone y hy e]; exact hj) hlu hlx)
 rw [editN_put (u.count + x.count) (by omega) hfr] at hWk
 obtain ⟨s1, s2, s3⟩ := ins_stands (j := j) hu hsx hl hn ht h64 hcc hd hdis
 have hok3 : okU (putAt p (insAt j x) u) := ins_all (P := fun w => w.id.ok ∧ inI w.kind) hnd hl (fun _ _ _ h => h) hok hok2 (fun h => h)
 have hM3 : Tame (putAt p (insAt j x) u) := ⟨by omega, ins_all (P := TameU) hnd hl (fun _ _ _ h => h) hM.2 hM2.2 (fun h => h)⟩
 have hroot := put_root (id := p) (f := insAt j x) (u := u) (fun _ => rfl) (fun _ => rfl)
 have hxu : noId x.id u := fun w hw e => hdis x.id (List.mem_map.2 ⟨x, self_all x, rfl⟩) (List.mem_map.2 ⟨w, hw, e⟩)
 have hdrop : dropU x.id (putAt p (insAt j x) u) = u := drop_ins u.count (Nat.le_refl _) hxu
 obtain ⟨r', hlv, _⟩ := lin_put (f := insAt j x) (fun _ => rfl) u.count (Nat.le_refl _) hnd hl
 obtain ⟨_, hat⟩ := lin_head (putAt p (insAt j x) u).count (Nat.le_refl _) _ _ hlv
 have hxv : x ∈ (putAt p (insAt j x) u).all := by
   refine all_trans (putAt p (insAt j x) u).count _ (insAt j x q) (Nat.le_refl _) hat x ?_
   refine kid_in (u := insAt j x q) (x := x) ?_ x (self_all x)
   show x ∈ q.kids.take j ++ [x] ++ q.kids.drop j
   simp
 have hxi : x.id ≠ (putAt p (insAt j x) u).id := by
   rw [hroot.1]
   exact fun e => hxu u (self_all u) e.symm
 have hfind : findU x.id (putAt p (insAt j x) u) = x := by
   unfold findU
   cases hq : linL x.id (putAt p (insAt j x) u) with
   | nil => exact absurd rfl (lin_empty hq x hxv)
   | cons a b =>
     obtain ⟨g1, g2⟩ := lin_head (putAt p (insAt j x) u).count (Nat.le_refl _) a b hq
     exact ids_inj (stands_nodup s1) g2 hxv g1
 have hperm := put_perm (f := insAt j x) (A := x.ids) (B := []) u.count (Nat.le_refl _) hnd hl (by rw [List.append_nil]; exact ins_perm j x q)
 rw [List.append_nil] at hperm
 exact ⟨q, r, j, rfl, hl, hj, hok3, hM3, s1, by omega, hxv, hxi, hfr, hone, hfind, hdrop, hat, fun t ht => hperm.symm.mem_iff.1 (List.mem_append_left _ ht), hWk⟩
theorem Made.cut {u x q : Ut} {p : Trip} {r : List Ut} {j : Nat} (h : Made u x p q r j) : PC Tryz.prog env0 42 [uv (putAt p (insAt j x) u), idv x.id] [uv u, uv x] := by
 have hc := h.count
 obtain ⟨k, g1, g2, g3, _⟩ := cut_facts h.stands (List.mem_map.2 ⟨x, h.self, rfl⟩) h.ne fun y hy => (lens_of h.tame (by omega) y hy).1
 have := cut_pc x.id (putAt p (insAt j x) u) k (putAt p (insAt j x) u).count (by omega) (small_tame h.tame) g1 g2
 rw [g3, h.drop, h.find] at this
 exact this
end Go.Proofs.YtmnbobcgjnickaaGreatDoor.Pt
namespace Go.Proofs.YtmnbobcgjnickaaGreatDoor.Pt
open Go Go.Pv Go.RowKit
set_option linter.unusedSimpArgs false
open Lab Lcs Go.Proofs.YtmnbobcgjnickaaGreatDoor Go.Proofs.YtmnbobcgjnickaaGreatDoor.Pu
set_option maxRecDepth 10000
theorem find_self {u x : Ut} (h : u.ids.Nodup) (hx : x ∈ u.all) : ∃ r, linL x.id u = x :: r := by
 have h1 := lin_ne u x hx
 cases hq : linL x.id u with
 | nil => exact absurd hq h1
 | cons y r =>
   obtain ⟨h2, h3⟩ := lin_head u.count (Nat.le_refl _) y r hq
   exact ⟨r, by rw [ids_inj h hx h3 h2.symm]⟩
theorem cut_perm_kids {j : Nat} {l : List Ut} {y : Ut} (h : l[j]? = some y) : l.Perm (y :: (l.take j ++ l.drop (j + 1))) := by
 obtain ⟨hj, he⟩ := List.getElem?_eq_some_iff.1 h
 have h1 : l = l.take j ++ (y :: l.drop (j + 1)) := by rw [← he, List.getElem_cons_drop, List.take_append_drop]
 conv => lhs; rw [h1]
 exact List.perm_middle
theorem ins_cut {j : Nat} {p y : Ut} (h : p.kids[j]? = some y) : insAt j y (cutAt j p) = p := by
 obtain ⟨hj, he⟩ := List.getElem?_eq_some_iff.1 h
 have h0 : (p.kids.take j).length = j := by rw [List.length_take]; omega
 have h1 : (p.kids.take j ++ p.kids.drop (j + 1)).take j = p.kids.take j := by rw [List.take_append_of_le_length (by omega), List.take_of_length_le (by omega)]
 have h2 : (p.kids.take j ++ p.kids.drop (j + 1)).drop j = p.kids.drop (j + 1) := by rw [List.drop_append_of_le_length (by omega), List.drop_of_length_le (by omega)]; rfl
 have h3 : p.kids.take j ++ [y] ++ p.kids.drop (j + 1) = p.kids := by
   rw [List.append_assoc]
   show p.kids.take j ++ (y :: p.kids.drop (j + 1)) = p.kids
   rw [← he, List.getElem_cons_drop, List.take_append_drop]
 unfold insAt
 show Ut.withKids (cutAt j p) ((p.kids.take j ++ p.kids.drop (j + 1)).take j ++ [y] ++ (p.kids.take j ++ p.kids.drop (j + 1)).drop j) = p
 rw [h1, h2, h3]
 cases p
 rfl
structure Cut (u : Ut) (id : Trip) (y p : Ut) (j : Nat) : Prop where
 find : findU id u = y
 yid : y.id = id
 drop : dropU id u = putAt p.id (cutAt j) u
 at' : p.kids[j]? = some y
 pm : p ∈ u.all
 par : parV id u = (p.id, (j : Int), true)
 ok : okU (dropU id u)
 ok2 : okU y
 tame : Tame (dropU id u)
 tame2 : Tame y
 stands : standsB (dropU id u) = true
 stands2 : standsB y = true
 kind : y.kind ≠ 0
 count : (dropU id u).count + y.count = u.count
 perm : ((dropU id u).ids ++ y.ids).Perm u.ids
 apart : ∀ t ∈ (dropU id u).ids, t ∉ y.ids
 mem : p.id ∈ (dropU id u).ids
 cut : PC Tryz.prog env0 42 [uv u, idv id] [uv (dropU id u), uv y]
 ins : insE (dropU id u) p.id (j : Int) y = 0
 back : PC Tryz.prog env0 33 [uv (dropU id u), idv p.id, .int .i64 (j : Nat), uv y] [uv u]
theorem cut_all (u : Ut) (id : Trip) (hok : okU u) (hM : Tame u) (hc : u.count ≤ 1024) (hs : standsB u = true) (hm : id ∈ u.ids) (hi : id ≠ u.id) : ∃ (y p : Ut) (j : Nat), Cut u id y p j := by
 have hnd := stands_nodup hs
 have hne : linL id u ≠ [] := by
   intro e
   obtain ⟨x, hx, he⟩ := List.mem_map.1 hm
   exact lin_empty e x hx he
 obtain ⟨y, p, r, j, h1, h2, h3, h4, h5⟩ := drop_put u.count (Nat.le_refl _) hnd (Ne.symm hi) hne
 obtain ⟨s, hp⟩ := find_self hnd h2
 obtain ⟨c1, c2, c3, c4, c5, c6⟩ := cut_stands hs hp h2 h3
 have hpar : parV id u = (p.id, (j : Int), true) := by
   unfold parV
   rw [h1]
   show (p.id, ((p.kids.findIdx fun k => decide (k.id = id) : Nat) : Int), true) = _
   rw [h4]
 obtain ⟨hv, _, _, _⟩ := stands_facts hs
 obtain ⟨f1, f2, f3, f4⟩ := valid_facts hv
 have hym : y ∈ p.kids := List.mem_of_getElem? h3
 have hyu : ∀ z ∈ y.all, z ∈ u.all := fun z hz => all_trans u.count u p (Nat.le_refl _) h2 z (kid_in hym z hz)
 have hfy : findU id u = y := by unfold findU; rw [h1]
 have hnd2 : ((putAt p.id (cutAt j) u).ids ++ y.ids).Nodup := (c3.nodup_iff).2 hnd
 obtain ⟨hd1, hd2, hd3⟩ := List.nodup_append.1 hnd2
 obtain ⟨r', hlr, hrl⟩ := lin_put (f := cutAt j) (fun _ => rfl) u.count (Nat.le_refl _) hnd hp
 have hpk := cut_perm_kids h3
 have hkl := hpk.length_eq
 rw [List.length_cons] at hkl
 have hk64 : p.kids.length ≤ 64 := by
   have := f3 p h2
   cases p
   unfold aloneB at this
   simp only [Bool.and_eq_true, decide_eq_true_eq] at this
   exact this.1
 have hjl : j < p.kids.length := (List.getElem?_eq_some_iff.1 h3).1
 have hins : insE (putAt p.id (cutAt j) u) p.id (j : Int) y = 0 := by
   have e1 : findU p.id (putAt p.id (cutAt j) u) = cutAt j p := by unfold findU; rw [hlr]
   have e2 : foundB p.id (putAt p.id (cutAt j) u) = true := by unfold foundB; rw [hlr]
   have e3 : (ancL p.id (putAt p.id (cutAt j) u)).length = r'.length := by unfold ancL; rw [hlr]; simp
   have hkids : (cutAt j p).kids = p.kids.take j ++ p.kids.drop (j + 1) := rfl
   have e4 : nestsB (cutAt j p).kind y.kind = true := (kids_facts (f4 p h2)).2 y hym
   have e5 : takenB (cutAt j p).kids y.kind y.label = false := by
     unfold takenB
     rw [List.any_eq_false]
     intro z hz
     rw [hkids] at hz
     have hn := (hpk.map keyK).nodup_iff.1 (kids_facts (f4 p h2)).1
     rw [List.map_cons, List.nodup_cons] at hn
     intro e
     simp only [Bool.and_eq_true, decide_eq_true_eq] at e
     exact hn.1 (List.mem_map.2 ⟨z, hz, by unfold keyK; rw [e.1, e.2]⟩)
   have e6 : (cutAt j p).kids.length + 1 = p.kids.length := by rw [hkids]; exact hkl.symm
   have hplace : placeE (putAt p.id (cutAt j) u) p.id (j : Int) y = 0 := by
     unfold placeE
     rw [e1, e2, e3, e4, e5]
     rw [if_neg (by decide), if_neg (by decide), if_neg (by omega), if_neg (by decide), if_neg (by omega)]
   unfold insE
   rw [edit_stands, edit_stands, c1, c4, hplace, if_neg (by decide), if_neg (by decide), if_neg c5, if_neg (by decide)]
   rw [if_neg]
   intro e
   obtain ⟨t, ht, he⟩ := List.any_eq_true.1 e
   simp only [decide_eq_true_eq] at he
   exact hd3 t he t ht rfl
 have hok1 : okU (putAt p.id (cutAt j) u) := by rw [← h5]; exact drop_ok u.count (Nat.le_refl _) hok
 have hok2 : okU y := fun z hz => hok z (hyu z hz)
 have hM2 : Tame y := ⟨by omega, fun z hz => hM.2 z (hyu z hz)⟩
 have hM1 : Tame (putAt p.id (cutAt j) u) := ⟨by omega, put_all (P := TameU) (fun _ _ _ h => h) u.count (Nat.le_refl _) hM.2 fun q hq e => by
   obtain rfl : q = p := ids_inj hnd hq h2 e
   refine ⟨rfl, fun z hz => ?_⟩
   have hz2 : z ∈ cutAt j q :: Ut.alls (q.kids.take j ++ q.kids.drop (j + 1)) := by
     have := Ut.all_eq (cutAt j q)
     rw [this] at hz
     exact hz
   rcases List.mem_cons.1 hz2 with rfl | hz2
   · exact hM.2 q hq
   · obtain ⟨k, hk, hz⟩ := mem_alls.1 (cut_alls hz2)
     exact hM.2 z (all_trans u.count u q (Nat.le_refl _) hq z (kid_in hk z hz))⟩
 have hyi : y.id = id := (lin_head u.count (Nat.le_refl _) _ _ h1).1
 have hpm : p.id ∈ (putAt p.id (cutAt j) u).ids := by
   obtain ⟨g1, g2⟩ := lin_head (putAt p.id (cutAt j) u).count (Nat.le_refl _) _ _ hlr
   exact List.mem_map.2 ⟨_, g2, g1⟩
 have hno : noId p.id y := fun w hw e => hd3 p.id hpm w.id (List.mem_map.2 ⟨w, hw, rfl⟩) e.symm
 have hfr : Fresh1 p.id (insAt j y) y.count (putAt p.id (cutAt j) u) := fresh_ins hd1 hno
 have hone : ∀ w ∈ (putAt p.id (cutAt j) u).all, w.id = p.id → w = cutAt j p := fun w hw e => by
   obtain ⟨g1, g2⟩ := lin_head (putAt p.id (cutAt j) u).count (Nat.le_refl _) _ _ hlr
   exact ids_inj hd1 hw g2 (by rw [e, g1])
 have hjc : j ≤ (cutAt j p).kids.length := by
   have h0 : (cutAt j p).kids = p.kids.take j ++ p.kids.drop (j + 1) := rfl
   rw [h0, List.length_append, List.length_take]
   omega
 have hWk := withKid_pc p.id (putAt p.id (cutAt j) u) y j ((putAt p.id (cutAt j) u).count + y.count) (edok_ins _ (Nat.le_refl _) hfr (fun w hw e => by rw [hone w hw e]; exact hjc) (lens_of hM1 (by omega)) fun w hw => (lens_of hM2 (by omega) w hw).1)
 rw [editN_put ((putAt p.id (cutAt j) u).count + y.count) (by omega) hfr, put_put (f := cutAt j) (g := insAt j y) u.count (Nat.le_refl _) (fun w _ e => e), put_id (f := fun w => insAt j y (cutAt j w)) u.count (Nat.le_refl _) (fun w hw e => by
   rw [ids_inj hnd hw h2 e]
   exact ins_cut h3)] at hWk
 have hCu : PC Tryz.prog env0 42 [uv u, idv id] [uv (putAt p.id (cutAt j) u), uv y] := by
   obtain ⟨k, g1, g2, g3, _⟩ := cut_facts hs hm hi fun y hy => (lens_of hM (by omega) y hy).1
   have := cut_pc id u k u.count (by omega) (small_tame hM) g1 g2
   rw [g3, h5, hfy] at this
   exact this
 refine ⟨y, p, j, hfy, hyi, h5, h3, h2, hpar, ?_, hok2, ?_, hM2, ?_, c4, c5, ?_, ?_, ?_, ?_, ?_, ?_, ?_⟩ <;> rw [h5]
 · exact hok1
 · exact hM1
 · exact c1
 · exact c2
 · exact c3
 · exact fun t ht ht2 => hd3 t ht t ht2 rfl
 · exact hpm
 · exact hCu
 · exact hins
 · exact hWk
end Go.Proofs.YtmnbobcgjnickaaGreatDoor.Pt
