/-
  The mathematics of Full and Shortest, of unique addresses, of an address with one step more. Plain values, step by step: the tables of this program; contracts of the elder kind. Depth, step by step. The way up from a unit, copies, Find, step by step.
-/
import Derived.Test.YtiohjjgncbhimaaDoorWAq
import Derived.Test.YtiohjjgncbhimaaDoorBr
import Derived.Test.YtiohjjgncbhimaaDoorDep
namespace Go.Proofs.YtiohjjgncbhimaaDoor.Pa
open Go Go.Pv Go.Proofs.YtiohjjgncbhimaaDoor.Pu
set_option linter.unusedSimpArgs false
open Lab Lcs Go.Proofs.YtiohjjgncbhimaaDoor Go.RowKit
set_option maxRecDepth 10000
set_option maxHeartbeats 4000000
def bookS : Stp := ⟨0, ⟨#[]⟩⟩
def wayA (id : Trip) (u : Ut) : List Stp := match linL id u with
 | [] => []
 | l => bookS :: ((l.reverse.map ustep).drop 1)
def inU (id : Trip) (u : Ut) : Bool := !(linL id u).isEmpty
noncomputable def oneM (u : Ut) (p : List Stp) : Bool := decide ((unitsM u p).length = 1)
noncomputable def shortF (u : Ut) (full : List Stp) : Nat → List Stp
 | 0 => full
 | k + 1 => if (!bookB ((full.drop (k + 1)).headD bookS) && oneM u (full.drop (k + 1))) = true then full.drop (k + 1) else shortF u full k
noncomputable def shortA (id : Trip) (u : Ut) : List Stp := shortF u (wayA id u) ((wayA id u).length - 1)
def Chain : Ut → List Ut → Prop
 | _, [] => True
 | u, x :: r => x ∈ u.kids ∧ Chain x r
mutual
theorem lin_chain (id : Trip) : ∀ u : Ut, linL id u ≠ [] → ∃ r, (linL id u).reverse = u :: r ∧ Chain u r ∧ ((u :: r).getLast (by simp)).id = id
 | .mk i k l hd w kids, h => by
   rw [linL] at h ⊢
   by_cases hi : i = id
   · rw [if_pos hi]
     exact ⟨[], rfl, trivial, hi⟩
   · rw [if_neg hi] at h ⊢
     cases hq : linK id kids with
     | nil => rw [hq] at h; exact absurd rfl h
     | cons a b =>
       obtain ⟨x, r, h1, h2, h3, h4⟩ := linK_chain id kids (by rw [hq]; simp)
       refine ⟨x :: r, ?_, ⟨h1, h3⟩, by simpa using h4⟩
       rw [hq] at h2
       rw [if_neg (by simp), List.reverse_append, h2]
       rfl
theorem linK_chain (id : Trip) : ∀ l : List Ut, linK id l ≠ [] → ∃ x r, x ∈ l ∧ (linK id l).reverse = x :: r ∧ Chain x r ∧ ((x :: r).getLast (by simp)).id = id
 | [], h => absurd rfl h
 | u :: q, h => by
   rw [linK] at h ⊢
   by_cases hu : linL id u = []
   · rw [hu] at h ⊢
     obtain ⟨x, r, h1, h2⟩ := linK_chain id q h
     exact ⟨x, r, List.mem_cons_of_mem _ h1, h2⟩
   · obtain ⟨r, h1, h2⟩ := lin_chain id u hu
     have he : ¬ (linL id u).isEmpty = true := by simpa using hu
     exact ⟨u, r, List.mem_cons_self, by rw [if_neg he, h1], h2⟩
end
theorem kid_in {u x : Ut} (h : x ∈ u.kids) : ∀ y ∈ x.all, y ∈ u.all := by
 intro y hy
 obtain ⟨k, hk, rfl⟩ := List.getElem_of_mem h
 cases u with
 | mk i kk l hd w kids => exact kid_all (List.getElem?_eq_getElem hk) _ hy
theorem chain_in : ∀ {u : Ut} {r : List Ut}, Chain u r → ∀ x ∈ u :: r, x ∈ u.all
 | u, [], _, x, hx => by
   rw [List.mem_singleton.1 hx]
   exact self_all u
 | u, y :: r, h, x, hx => by
   rcases List.mem_cons.1 hx with rfl | hx
   · exact self_all _
   · exact kid_in h.1 x (chain_in h.2 x hx)
theorem all_trans : ∀ (n : Nat) {u x y : Ut}, u.count ≤ n → x ∈ u.all → y ∈ x.all → y ∈ u.all
 | 0, u, _, _, hn, _, _ => by have := count_pos u; omega
 | n + 1, u, x, y, hn, hx, hy => by
   rw [Ut.all_eq] at hx
   rcases List.mem_cons.1 hx with rfl | hx
   · exact hy
   · obtain ⟨z, hz, hx⟩ := mem_alls.1 hx
     have hc : z.count ≤ n := by
       obtain ⟨k, hk, rfl⟩ := List.getElem_of_mem hz
       have := counts_mem (List.getElem?_eq_getElem hk)
       have := Ut.count_eq u
       omega
     exact kid_in hz y (all_trans n hc hx hy)
theorem fil_nodup {l : List Ut} (h : (l.map keyK).Nodup) {x : Ut} (hx : x ∈ l) : l.filter (isS (ustep x)) = [x] := by
 induction l with
 | nil => cases hx
 | cons a r ih =>
   rw [List.map_cons, List.nodup_cons] at h
   have key : ∀ y ∈ r, isS (ustep a) y = false := by
     intro y hy
     unfold isS
     rw [decide_eq_false_iff_not]
     intro e
     apply h.1
     refine List.mem_map.2 ⟨y, hy, ?_⟩
     unfold ustep at e
     injection e with e1 e2
     unfold keyK
     rw [e1, e2]
   rcases List.mem_cons.1 hx with rfl | hx
   · rw [List.filter_cons_of_pos (by simp [isS])]
     congr 1
     exact List.filter_eq_nil_iff.2 fun y hy => by rw [key y hy]; simp
   · have hax : ¬ isS (ustep x) a = true := by
       intro e
       have h2 := key x hx
       unfold isS at e h2
       simp only [decide_eq_true_eq] at e
       rw [decide_eq_false_iff_not] at h2
       exact h2 e.symm
     rw [List.filter_cons_of_neg hax]
     exact ih h.2 hx
theorem fold_way {u : Ut} : ∀ {r : List Ut}, Chain u r → (∀ x ∈ u.all, (x.kids.map keyK).Nodup) → (r.map ustep).foldl kidsM [u] = [(u :: r).getLast (by simp)]
 | [], _, _ => rfl
 | x :: r, h, hk => by
   have h1 : kidsM [u] (ustep x) = [x] := by
     unfold kidsM
     rw [List.flatMap_cons, List.flatMap_nil, List.append_nil]
     exact fil_nodup (hk u (self_all u)) h.1
   rw [List.map_cons, List.foldl_cons, h1, fold_way h.2 (fun y hy => hk y (kid_in h.1 y hy))]
   simp
theorem fold_mem : ∀ {r : List Ut} {u : Ut} {l : List Ut}, Chain u r → u ∈ l → (u :: r).getLast (by simp) ∈ (r.map ustep).foldl kidsM l
 | [], u, l, _, hu => by simpa using hu
 | x :: r, u, l, h, hu => by
   rw [List.map_cons, List.foldl_cons]
   have : x ∈ kidsM l (ustep x) := by
     unfold kidsM
     exact List.mem_flatMap.2 ⟨u, hu, List.mem_filter.2 ⟨h.1, by simp [isS]⟩⟩
   have := fold_mem h.2 this
   simpa using this
theorem valid_facts {u : Ut} (h : validB u = true) : u.count ≤ 1024 ∧ u.depth ≤ 8 ∧ (∀ x ∈ u.all, aloneB x = true) ∧ (∀ x ∈ u.all, kidsB x = true) := by
 unfold validB at h
 simp only [Bool.and_eq_true, decide_eq_true_eq, List.all_eq_true] at h
 exact ⟨h.1.1.1.1, h.1.1.1.2, h.1.1.2, h.1.2⟩
theorem kids_facts {x : Ut} (h : kidsB x = true) : (x.kids.map keyK).Nodup ∧ ∀ k ∈ x.kids, nestsB x.kind k.kind = true := by
 cases x
 unfold kidsB at h
 simp only [Bool.and_eq_true, decide_eq_true_eq, List.all_eq_true] at h
 exact ⟨h.2, h.1⟩
theorem nests_kind {p k : Int} (h : nestsB p k = true) : 1 ≤ k ∧ k ≤ 7 := by
 unfold nestsB at h
 repeat (split at h; (simp only [decide_eq_true_eq] at h; omega))
 cases h
theorem alone_label {x : Ut} (h : aloneB x = true) (hk : 1 ≤ x.kind ∧ x.kind ≤ 7) : stepB (ustep x) = true := by
 cases x with
 | mk i k l hd w kids =>
 have h1 : 1 ≤ k := hk.1
 have h2 : k ≤ 7 := hk.2
 simp only [aloneB] at h
 rw [if_neg (by omega)] at h
 simp only [Bool.and_eq_true, decide_eq_true_eq] at h
 unfold stepB ustep Ut.kind Ut.label
 simp [h1, h2, h.2.1.1.2]
theorem chain_steps {u : Ut} (hv : validB u = true) : ∀ {v : Ut} {r : List Ut}, v ∈ u.all → Chain v r → ∀ x ∈ r, stepB (ustep x) = true ∧ x ∈ u.all
 | v, [], _, _, x, hx => by cases hx
 | v, y :: r, hm, h, x, hx => by
   obtain ⟨hc, hd, ha, hk⟩ := valid_facts hv
   have hy : y ∈ u.all := all_trans u.count (Nat.le_refl _) hm (kid_in h.1 y (self_all y))
   rcases List.mem_cons.1 hx with rfl | hx
   · exact ⟨alone_label (ha _ hy) (nests_kind ((kids_facts (hk _ hm)).2 _ h.1)), hy⟩
   · exact chain_steps hv hy h.2 x hx
theorem chain_depth : ∀ {u : Ut} {r : List Ut}, Chain u r → r.length ≤ u.depth
 | u, [], _ => Nat.zero_le _
 | u, x :: r, h => by
   have h1 := chain_depth h.2
   obtain ⟨k, hk, rfl⟩ := List.getElem_of_mem h.1
   have h2 := depth_kid (List.getElem?_eq_getElem hk)
   have h3 : u.depth = Ut.depths u.kids := by cases u; exact depth_mk _ _ _ _ _ _
   simp only [List.length_cons]
   omega
theorem step_book {s : Stp} (h : stepB s = true) : bookB s = false := by
 unfold stepB at h
 unfold bookB
 simp only [Bool.and_eq_true, decide_eq_true_eq] at h
 rw [decide_eq_false (by omega)]
 rfl
theorem bookS_book : bookB bookS = true := by simp [bookB, bookS]
theorem may_steps {p : List Stp} (hl : p.length ≤ 9) (h : ∀ s ∈ p, stepB s = true) : mayA p = true :=
 mayA_iff.2 ⟨hl, fun i s _ hs => by unfold okAt; rw [h s (List.mem_of_getElem? hs)]; rfl⟩
theorem may_book {p : List Stp} (hl : p.length ≤ 8) (h : ∀ s ∈ p, stepB s = true) : mayA (bookS :: p) = true :=
 mayA_iff.2 ⟨by simp only [List.length_cons]; omega, fun i s _ hs => by
   cases i with
   | zero =>
     simp only [List.getElem?_cons_zero, Option.some.injEq] at hs
     subst hs
     simp [okAt, bookS_book]
   | succ i =>
     simp only [List.getElem?_cons_succ] at hs
     unfold okAt; rw [h s (List.mem_of_getElem? hs)]; rfl⟩
theorem way_facts {id : Trip} {u : Ut} (h : linL id u ≠ []) : ∃ r, wayA id u = bookS :: r.map ustep ∧ Chain u r ∧ ((u :: r).getLast (by simp)).id = id := by
 obtain ⟨r, h1, h2, h3⟩ := lin_chain id u h
 refine ⟨r, ?_, h2, h3⟩
 unfold wayA
 cases hq : linL id u with
 | nil => exact absurd hq h
 | cons a b =>
   rw [hq] at h1
   simp only []
   rw [h1]
   rfl
theorem units_full {id : Trip} {u : Ut} (hv : validB u = true) {r : List Ut} (hw : wayA id u = bookS :: r.map ustep) (hc : Chain u r) : unitsM u (wayA id u) = [(u :: r).getLast (by simp)] := by
 obtain ⟨_, hd, _, hk⟩ := valid_facts hv
 have hm : mayA (wayA id u) = true := by
   rw [hw]
   refine may_book (by rw [List.length_map]; exact Nat.le_trans (chain_depth hc) hd) fun s hs => ?_
   obtain ⟨x, hx, rfl⟩ := List.mem_map.1 hs
   exact (chain_steps hv (self_all u) hc x hx).1
 unfold unitsM
 rw [if_pos hm, hw]
 unfold unitsA
 simp only []
 unfold firstM
 rw [if_pos bookS_book]
 exact fold_way hc fun x hx => (kids_facts (hk x hx)).1
theorem chain_drop : ∀ {u : Ut} {r : List Ut} {j : Nat}, Chain u r → j < r.length → ∃ y t, r.drop j = y :: t ∧ Chain y t ∧ y ∈ r ∧ ((y :: t).getLast (by simp)) = ((u :: r).getLast (by simp))
 | u, [], j, _, h => by simp at h
 | u, x :: r, 0, h, _ => ⟨x, r, rfl, h.2, List.mem_cons_self, by simp⟩
 | u, x :: r, j + 1, h, hj => by
   obtain ⟨y, t, h1, h2, h3, h4⟩ := chain_drop (j := j) h.2 (by simpa using hj)
   exact ⟨y, t, by simpa using h1, h2, List.mem_cons_of_mem _ h3, by rw [h4]; simp⟩
theorem units_part {u : Ut} (hv : validB u = true) {r : List Ut} (hc : Chain u r) {j : Nat} (hj : j < r.length) : (u :: r).getLast (by simp) ∈ unitsM u ((r.map ustep).drop j) ∧ bookB (((r.map ustep).drop j).headD bookS) = false := by
 obtain ⟨_, hd, _, hk⟩ := valid_facts hv
 obtain ⟨y, t, h1, h2, h3, h4⟩ := chain_drop hc hj
 have hs : ∀ s ∈ (r.map ustep).drop j, stepB s = true := by
   intro s hs
   obtain ⟨x, hx, rfl⟩ := List.mem_map.1 (List.mem_of_mem_drop hs)
   exact (chain_steps hv (self_all u) hc x hx).1
 have hm : mayA ((r.map ustep).drop j) = true := by
   refine may_steps ?_ hs
   have := chain_depth hc
   rw [List.length_drop, List.length_map]
   omega
 have he : (r.map ustep).drop j = ustep y :: t.map ustep := by rw [← List.map_drop, h1]; rfl
 have hy := (chain_steps hv (self_all u) hc y h3)
 rw [← h4]
 constructor
 · unfold unitsM
   rw [if_pos hm, he]
   unfold unitsA
   simp only []
   refine fold_mem h2 ?_
   unfold firstM
   rw [if_neg (by rw [step_book hy.1]; simp)]
   exact List.mem_filter.2 ⟨hy.2, by simp [isS]⟩
 · rw [he]
   exact step_book hy.1
theorem short_facts (u : Ut) (full : List Stp) : ∀ k : Nat, ∃ j, j ≤ k ∧ shortF u full k = full.drop j ∧ (j = 0 ∨ (!bookB ((full.drop j).headD bookS) && oneM u (full.drop j)) = true) ∧ ∀ i, j < i → i ≤ k → (!bookB ((full.drop i).headD bookS) && oneM u (full.drop i)) = false
 | 0 => ⟨0, Nat.le_refl _, rfl, Or.inl rfl, fun i h1 h2 => by omega⟩
 | k + 1 => by
   by_cases h : (!bookB ((full.drop (k + 1)).headD bookS) && oneM u (full.drop (k + 1))) = true
   · exact ⟨k + 1, Nat.le_refl _, by rw [shortF, if_pos h], Or.inr h, fun i h1 h2 => by omega⟩
   · obtain ⟨j, h1, h2, h3, h4⟩ := short_facts u full k
     refine ⟨j, by omega, by rw [shortF, if_neg h, h2], h3, fun i g1 g2 => ?_⟩
     rcases Nat.lt_or_ge i (k + 1) with g | g
     · exact h4 i g1 (by omega)
     · obtain rfl : i = k + 1 := by omega
       simpa using h
theorem uniq_facts {id : Trip} {u : Ut} (hv : validB u = true) (h : linL id u ≠ []) : findA u (wayA id u) = [id] ∧ ∃ j, j < (wayA id u).length ∧ shortA id u = (wayA id u).drop j ∧ findA u (shortA id u) = [id] ∧ ∀ n, 0 < n → n < (shortA id u).length → (findA u ((shortA id u).drop n)).length ≠ 1 := by
 obtain ⟨r, hw, hc, hid⟩ := way_facts h
 have hf := units_full hv hw hc
 have hff : findA u (wayA id u) = [id] := by
   unfold findA
   rw [hf, ← hid]
   rfl
 have hl : (wayA id u).length = r.length + 1 := by rw [hw]; simp
 refine ⟨hff, ?_⟩
 obtain ⟨j, h1, h2, h3, h4⟩ := short_facts u (wayA id u) ((wayA id u).length - 1)
 have hd : ∀ i, (wayA id u).drop (i + 1) = (r.map ustep).drop i := fun i => by rw [hw]; rfl
 refine ⟨j, by omega, h2, ?_, ?_⟩
 · show findA u (shortF _ _ _) = _
   rw [h2]
   cases j with
   | zero => exact hff
   | succ j =>
     rcases h3 with h3 | h3
     · cases h3
     · rw [hd] at h3 ⊢
       have hp := units_part hv hc (j := j) (by omega)
       simp only [Bool.and_eq_true] at h3
       have h5 := h3.2
       unfold oneM at h5
       rw [decide_eq_true_eq] at h5
       obtain ⟨y, hy⟩ := List.length_eq_one_iff.1 h5
       unfold findA
       rw [hy] at hp ⊢
       rw [← List.mem_singleton.1 hp.1, ← hid]
       rfl
 · intro n hn hn2 e
   have hs : shortA id u = (wayA id u).drop j := h2
   rw [hs] at hn2 e
   rw [List.drop_drop] at e
   rw [List.length_drop] at hn2
   have h5 := h4 (j + n) (by omega) (by omega)
   obtain ⟨i, hi⟩ : ∃ i, j + n = i + 1 := ⟨j + n - 1, by omega⟩
   rw [hi, hd] at h5 e
   have hp := units_part hv hc (j := i) (by omega)
   rw [hp.2] at h5
   unfold findA at e
   rw [List.length_map] at e
   unfold oneM at h5
   rw [decide_eq_true e] at h5
   cases h5
mutual
theorem lin_ne : ∀ (u x : Ut), x ∈ u.all → linL x.id u ≠ []
 | .mk i k l hd w kids, x, h => by
   rw [all_mk] at h
   rw [linL]
   by_cases hi : i = x.id
   · rw [if_pos hi]; simp
   · rw [if_neg hi]
     rcases List.mem_cons.1 h with rfl | h
     · exact absurd rfl hi
     · have := linK_ne kids x h
       rw [if_neg (by simpa using this)]
       simp
theorem linK_ne : ∀ (l : List Ut) (x : Ut), x ∈ Ut.alls l → linK x.id l ≠ []
 | [], x, h => by simp [Ut.alls] at h
 | u :: r, x, h => by
   rw [Ut.alls] at h
   rw [linK]
   by_cases hu : linL x.id u = []
   · rw [hu]
     rcases List.mem_append.1 h with h | h
     · exact absurd hu (lin_ne u x h)
     · exact linK_ne r x h
   · rw [if_neg (by simpa using hu)]
     exact hu
end
theorem ids_inj {l : List Ut} (h : (l.map Ut.id).Nodup) {x y : Ut} (hx : x ∈ l) (hy : y ∈ l) (e : x.id = y.id) : x = y := by
 induction l with
 | nil => cases hx
 | cons a r ih =>
   rw [List.map_cons, List.nodup_cons] at h
   rcases List.mem_cons.1 hx with h1 | h1
   · rcases List.mem_cons.1 hy with h2 | h2
     · rw [h1, h2]
     · refine absurd (List.mem_map.2 ⟨y, h2, ?_⟩) h.1
       rw [← e, h1]
   · rcases List.mem_cons.1 hy with h2 | h2
     · refine absurd (List.mem_map.2 ⟨x, h1, ?_⟩) h.1
       rw [e, h2]
     · exact ih h.2 h1 h2
theorem kidsM_in {u : Ut} {l : List Ut} (s : Stp) (h : ∀ x ∈ l, x ∈ u.all) : ∀ x ∈ kidsM l s, x ∈ u.all := by
 intro x hx
 unfold kidsM at hx
 obtain ⟨y, hy, h1⟩ := List.mem_flatMap.1 hx
 exact all_trans u.count (Nat.le_refl _) (h y hy) (kid_in (List.mem_filter.1 h1).1 x (self_all x))
theorem fold_in {u : Ut} : ∀ (p : List Stp) (l : List Ut), (∀ x ∈ l, x ∈ u.all) → ∀ x ∈ p.foldl kidsM l, x ∈ u.all
 | [], _, h => h
 | s :: p, l, h => fold_in p (kidsM l s) (kidsM_in s h)
theorem units_in {u : Ut} (p : List Stp) : ∀ x ∈ unitsA u p, x ∈ u.all := by
 cases p with
 | nil => intro x hx; rw [show unitsA u [] = [u] from rfl] at hx; rw [List.mem_singleton.1 hx]; exact self_all u
 | cons s p =>
   refine fold_in p _ ?_
   intro x hx
   unfold firstM at hx
   split at hx
   · rw [List.mem_singleton.1 hx]; exact self_all u
   · exact (List.mem_filter.1 hx).1
end Go.Proofs.YtiohjjgncbhimaaDoor.Pa
namespace Go.Proofs.YtiohjjgncbhimaaDoor.Pu
open Go Go.Pv
set_option linter.unusedSimpArgs false
set_option maxRecDepth 10000
theorem tq_int : tdOf Tryd.prog 3 = some ⟨false, 1, [.int .i64 0], .int .i64⟩ := by kernel_rfl
theorem tq_string : tdOf Tryd.prog 9 = some ⟨false, 1, [.str ⟨#[]⟩], .str⟩ := by kernel_rfl
theorem tq_bool : tdOf Tryd.prog 4 = some ⟨false, 1, [.bool false], .bool⟩ := by kernel_rfl
theorem tq_uint8 : tdOf Tryd.prog 5 = some ⟨false, 1, [.int .u8 0], .int .u8⟩ := by kernel_rfl
theorem tq_apiId : tdOf Tryd.prog 23 = some ⟨true, 3, [.int .i64 0, .int .i64 0, .int .i64 0], .struct [(0, 1, false), (1, 1, false), (2, 1, false)]⟩ := by kernel_rfl
theorem tq_apiMark : tdOf Tryd.prog 83 = some ⟨true, 3, [.int .i64 0, .int .i64 0, .int .i64 0], .struct [(0, 1, false), (1, 1, false), (2, 1, false)]⟩ := by kernel_rfl
theorem tq_apiWord : tdOf Tryd.prog 85 = some ⟨true, 4, [.str ⟨#[]⟩, .int .i64 0, .int .i64 0, .int .i64 0], .struct [(0, 1, false), (1, 3, true)]⟩ := by kernel_rfl
theorem tq_apiUnit : tdOf Tryd.prog 27 = some ⟨true, 8, [.int .i64 0, .int .i64 0, .int .i64 0, .int .i64 0, .str ⟨#[]⟩, .nil, .nil, .nil], .struct [(0, 3, true), (3, 1, false), (4, 1, false), (5, 1, false), (6, 1, false), (7, 1, false)]⟩ := by kernel_rfl
theorem tq_s_apiUnit : tdOf Tryd.prog 25 = some ⟨false, 1, [.nil], .slice 27 8 120⟩ := by kernel_rfl
theorem tq_s_apiWord : tdOf Tryd.prog 24 = some ⟨false, 1, [.nil], .slice 85 4 40⟩ := by kernel_rfl
theorem tq_s_apiId : tdOf Tryd.prog 43 = some ⟨false, 1, [.nil], .slice 23 3 24⟩ := by kernel_rfl
theorem tq_apiStep : tdOf Tryd.prog 59 = some ⟨true, 2, [.int .i64 0, .str ⟨#[]⟩], .struct [(0, 1, false), (1, 1, false)]⟩ := by kernel_rfl
theorem tq_s_apiStep : tdOf Tryd.prog 28 = some ⟨false, 1, [.nil], .slice 59 2 24⟩ := by kernel_rfl
theorem tq_apiErrno : tdOf Tryd.prog 38 = some ⟨false, 1, [.int .i64 0], .int .i64⟩ := by kernel_rfl
def tdl : List (TypeId × TD) := [(3, ⟨false, 1, [.int .i64 0], .int .i64⟩), (9, ⟨false, 1, [.str ⟨#[]⟩], .str⟩), (4, ⟨false, 1, [.bool false], .bool⟩), (5, ⟨false, 1, [.int .u8 0], .int .u8⟩), (23, ⟨true, 3, [.int .i64 0, .int .i64 0, .int .i64 0], .struct [(0, 1, false), (1, 1, false), (2, 1, false)]⟩), (83, ⟨true, 3, [.int .i64 0, .int .i64 0, .int .i64 0], .struct [(0, 1, false), (1, 1, false), (2, 1, false)]⟩), (85, ⟨true, 4, [.str ⟨#[]⟩, .int .i64 0, .int .i64 0, .int .i64 0], .struct [(0, 1, false), (1, 3, true)]⟩), (27, ⟨true, 8, [.int .i64 0, .int .i64 0, .int .i64 0, .int .i64 0, .str ⟨#[]⟩, .nil, .nil, .nil], .struct [(0, 3, true), (3, 1, false), (4, 1, false), (5, 1, false), (6, 1, false), (7, 1, false)]⟩), (25, ⟨false, 1, [.nil], .slice 27 8 120⟩), (24, ⟨false, 1, [.nil], .slice 85 4 40⟩), (43, ⟨false, 1, [.nil], .slice 23 3 24⟩), (59, ⟨true, 2, [.int .i64 0, .str ⟨#[]⟩], .struct [(0, 1, false), (1, 1, false)]⟩), (28, ⟨false, 1, [.nil], .slice 59 2 24⟩), (38, ⟨false, 1, [.int .i64 0], .int .i64⟩)]
theorem tdl_ok : AllTd Tryd.prog tdl := ⟨tq_int, tq_string, tq_bool, tq_uint8, tq_apiId, tq_apiMark, tq_apiWord, tq_apiUnit, tq_s_apiUnit, tq_s_apiWord, tq_s_apiId, tq_apiStep, tq_s_apiStep, tq_apiErrno, trivial⟩
def tbh (fr : Nat → List Nat) (hk : Nat → Bool) : Tb := ⟨Pv.look tdl, eqs, fun _ => none, fr, hk, fun _ => 0⟩
abbrev tbf (fr : Nat → List Nat) : Tb := tbh fr fun _ => false
def tb0 : Tb := tbf fun _ => []
theorem tb_ok {fr : Nat → List Nat} {hk : Nat → Bool} : ∀ t d, (tbh fr hk).td t = some d → tdOf Tryd.prog t = some d := Pv.look_ok tdl_ok
end Go.Proofs.YtiohjjgncbhimaaDoor.Pu
namespace Go.Proofs.YtiohjjgncbhimaaDoor.Pu
open Go Go.Pv
set_option linter.unusedSimpArgs false
open Lab Lcs Go.Proofs.YtiohjjgncbhimaaDoor
set_option maxRecDepth 10000
theorem kid_at {u : Ut} {k : Nat} (h : k < u.kids.length) : ∃ x, u.kids[k]? = some x := ⟨u.kids[k], List.getElem?_eq_getElem h⟩
end Go.Proofs.YtiohjjgncbhimaaDoor.Pu
namespace Go.Proofs.YtiohjjgncbhimaaDoor.Pu
open Go Go.Pv
set_option linter.unusedSimpArgs false
open Lab Lcs Go.Proofs.YtiohjjgncbhimaaDoor
set_option maxRecDepth 10000
mutual
theorem lin_len (t : Trip) : ∀ u : Ut, (linL t u).length ≤ u.count
 | .mk i k l h w kids => by
   rw [linL, count_mk]
   split
   · simp
   · split
     · simp
     · have := linK_len t kids
       rw [List.length_append, List.length_singleton]
       omega
theorem linK_len (t : Trip) : ∀ l : List Ut, (linK t l).length ≤ Ut.counts l
 | [] => by simp [linK]
 | u :: r => by
   rw [linK]
   have h1 := lin_len t u
   have h2 := linK_len t r
   simp only [Ut.counts]
   split <;> omega
end
theorem trip_eq {a b : Trip} (h : a = b) : a.x = b.x ∧ a.y = b.y ∧ a.z = b.z := by subst h; exact ⟨rfl, rfl, rfl⟩
theorem trip_ne {a b : Trip} (h : a ≠ b) : ¬ (a.x = b.x ∧ a.y = b.y ∧ a.z = b.z) := fun hh => h (by cases a; cases b; simp_all)
set_option maxHeartbeats 4000000 in
theorem lineage_pcr (t : Trip) (n : Nat) : ∀ (u : Ut), u.count ≤ n → n ≤ 100000000 → PCR Tryd.prog envU 56 [uv u, idv t] 27 8 ((linL t u).map uv) := by
 induction n with
 | zero => intro u h; have := count_pos u; omega
 | succ n ih =>
 intro u hn hM
 have hue := uv_eq u
 rw [hue]
 unfold idv idl
 refine PCR.of_vc (T := tb0) eqs_ok tb_ok rfl mixed Tryd.func56 rfl rfl ?_; intro Γ C WK LP fin h0 hW hC hB hR hLP hfin
 by_cases hid : u.id = t
 · have hi := trip_eq hid
   (repeat ((conv => whnf); first | (with_reducible refine Fork.mk (fun hq => ?_) (fun hc => ?_)); rotate_left; (exfalso; first | omega | (simp [eqC, cellsI, idv, idl] at hc; done) | (simp [eqC, cellsI, idv, idl] at hc; omega) | contradiction); (try clear hq) | (with_reducible refine Fork.mk (fun hc => ?_) (fun hq => ?_)); (exfalso; first | omega | (simp [eqC, cellsI, idv, idl] at hc; done) | (simp [eqC, cellsI, idv, idl] at hc; omega) | contradiction); (try clear hq) | (with_reducible refine Owe.mk ?_ ?_); (first | omega | (unfold most; omega) | decide +kernel | assumption | (simp [most]; done) | (simp [most]; omega)) | (with_reducible intro z hz); first | (replace hz := hz (by omega); subst hz) | subst hz)); try (conv => whnf)
   refine hfin _ _ _ _ ((Weak.row 2 (((linL t u).map uv).map .imm) rfl (by rw [lin_self hid, List.map_cons, List.map_cons, hue]; rfl))) rfl
 · have hi := trip_ne hid
   (repeat ((conv => whnf); first | (with_reducible refine Fork.mk (fun hq => ?_) (fun hc => ?_)); rotate_left; (exfalso; first | omega | (simp [eqC, cellsI, idv, idl] at hc; done) | (simp [eqC, cellsI, idv, idl] at hc; omega) | contradiction); (try clear hq) | (with_reducible refine Fork.mk (fun hc => ?_) (fun hq => ?_)); (exfalso; first | omega | (simp [eqC, cellsI, idv, idl] at hc; done) | (simp [eqC, cellsI, idv, idl] at hc; omega) | contradiction); (try clear hq) | (with_reducible refine Owe.mk ?_ ?_); (first | omega | (unfold most; omega) | decide +kernel | assumption | (simp [most]; done) | (simp [most]; omega)) | (with_reducible intro z hz); first | (replace hz := hz (by omega); subst hz) | subst hz)); try (conv => whnf)
   refine hLP _ _ _ Nat (fun k => ⟨[.any, .any, .ptr 0 1 0, .ptr 1 1 0, .any, .any, .any, .any, .any, .any, .any, .any, .any, .any, .any, .imm (.sl 8 (u.kids.map uv)), .imm (.int .i64 u.kids.length), .imm (.int .i64 (k : Nat)), .any, .any, .any, .any, .any, .any, .any, .any, .any, .any, .any, .any, .any, .any], [.box 1 [.imm (.int .i64 u.id.x), .imm (.int .i64 u.id.y), .imm (.int .i64 u.id.z), .imm (.int .i64 u.kind), .imm (.str u.label), .imm (.sl 4 (u.head.map wdv)), .imm (.sl 4 (u.words.map wdv)), .imm (.sl 8 (u.kids.map uv))], .box 1 [.imm (.int .i64 t.x), .imm (.int .i64 t.y), .imm (.int .i64 t.z)]]⟩) (fun k => k ≤ u.kids.length ∧ linK t (u.kids.take k) = []) (fun k => u.kids.length - k) 0 ⟨Nat.zero_le _, rfl⟩ (Weak.slots 2 (by first | omega | (rw [h0]; exact Nat.le_of_ble_eq_true rfl)) rfl rfl (by first | (simp only [List.all_cons, List.all_nil, blkBelow, belowL_imm, belowL, belowB, Bool.and_true, Bool.true_and]; done) | rfl | (simp only [List.all_cons, List.all_nil, blkBelow, belowL_imm, belowL, belowB, Bool.and_true, Bool.true_and]; first | done | decide) | simp [blkBelow, belowB, belowL, belowL_imm]) (by repeat (first | exact Wk.nil | refine Wk.drop16 ?_ | refine Wk.drop4 ?_ | refine Wk.drop ?_ | refine Wk.eq (by with_reducible rfl) rfl ?_ | refine Wk.eq (congrArg (fun z => PV.imm (IV.int IntKind.i64 z)) (by first | omega | (simp; done) | (simp; omega))) rfl ?_ | refine Wk.eq rfl rfl ?_))) ?_
   rintro k ⟨hk, hno⟩
   by_cases hlt : k < u.kids.length
   · obtain ⟨x, hx⟩ := kid_at hlt
     have h1 := kid_lt' hx
     have hI := ih x (by omega) (by omega)
     have hux := uv_eq x
     rw [hux] at hI
     unfold idv idl at hI
     have hL : (((linL t x).map uv).map PV.imm).length = (linL t x).length := by simp
     have hl := lin_len t x
     (repeat ((conv => whnf); first | (with_reducible refine Fork.mk (fun hq => ?_) (fun hc => ?_)); rotate_left; (exfalso; first | omega | (simp [eqC, cellsI, idv, idl] at hc; done) | (simp [eqC, cellsI, idv, idl] at hc; omega) | contradiction); (try clear hq) | (with_reducible refine Fork.mk (fun hc => ?_) (fun hq => ?_)); (exfalso; first | omega | (simp [eqC, cellsI, idv, idl] at hc; done) | (simp [eqC, cellsI, idv, idl] at hc; omega) | contradiction); (try clear hq) | (with_reducible refine Owe.mk ?_ ?_); (first | omega | (unfold most; omega) | decide +kernel | assumption | (simp [most]; done) | (simp [most]; omega)) | (with_reducible intro z hz); first | (replace hz := hz (by omega); subst hz) | subst hz)); try (conv => whnf)
     refine Idx.mk k (uv x) _ rfl (by simp [hx]) (by rw [hux]; try rfl) ?_
     (repeat ((conv => whnf); first | (with_reducible refine Fork.mk (fun hq => ?_) (fun hc => ?_)); rotate_left; (exfalso; first | omega | (simp [eqC, cellsI, idv, idl] at hc; done) | (simp [eqC, cellsI, idv, idl] at hc; omega) | contradiction); (try clear hq) | (with_reducible refine Fork.mk (fun hc => ?_) (fun hq => ?_)); (exfalso; first | omega | (simp [eqC, cellsI, idv, idl] at hc; done) | (simp [eqC, cellsI, idv, idl] at hc; omega) | contradiction); (try clear hq) | (with_reducible refine Owe.mk ?_ ?_); (first | omega | (unfold most; omega) | decide +kernel | assumption | (simp [most]; done) | (simp [most]; omega)) | (with_reducible intro z hz); first | (replace hz := hz (by omega); subst hz) | subst hz)); try (conv => whnf)
     refine CallV.row _ _ _ (hR _ _ _ _ _ (PCRw.of (hI))) (fun js hjs => ?_); subst hjs
     by_cases hz : (linL t x).length = 0
     · (repeat ((conv => whnf); first | (with_reducible refine Fork.mk (fun hq => ?_) (fun hc => ?_)); rotate_left; (exfalso; first | omega | (simp [eqC, cellsI, idv, idl] at hc; done) | (simp [eqC, cellsI, idv, idl] at hc; omega) | contradiction); (try clear hq) | (with_reducible refine Fork.mk (fun hc => ?_) (fun hq => ?_)); (exfalso; first | omega | (simp [eqC, cellsI, idv, idl] at hc; done) | (simp [eqC, cellsI, idv, idl] at hc; omega) | contradiction); (try clear hq) | (with_reducible refine Owe.mk ?_ ?_); (first | omega | (unfold most; omega) | decide +kernel | assumption | (simp [most]; done) | (simp [most]; omega)) | (with_reducible intro z hz); first | (replace hz := hz (by omega); subst hz) | subst hz)); try (conv => whnf)
       exact ⟨k + 1, ⟨by omega, linK_step hx hno (List.eq_nil_of_length_eq_zero hz)⟩, by dsimp only; omega, (Weak.slots 2 (by first | omega | (rw [h0]; exact Nat.le_of_ble_eq_true rfl)) rfl rfl (by first | (simp only [List.all_cons, List.all_nil, blkBelow, belowL_imm, belowL, belowB, Bool.and_true, Bool.true_and]; done) | rfl | (simp only [List.all_cons, List.all_nil, blkBelow, belowL_imm, belowL, belowB, Bool.and_true, Bool.true_and]; first | done | decide) | simp [blkBelow, belowB, belowL, belowL_imm]) (by repeat (first | exact Wk.nil | refine Wk.drop16 ?_ | refine Wk.drop4 ?_ | refine Wk.drop ?_ | refine Wk.eq (by with_reducible rfl) rfl ?_ | refine Wk.eq (congrArg (fun z => PV.imm (IV.int IntKind.i64 z)) (by first | omega | (simp; done) | (simp; omega))) rfl ?_ | refine Wk.eq rfl rfl ?_)))⟩
     · (repeat ((conv => whnf); first | (with_reducible refine Fork.mk (fun hq => ?_) (fun hc => ?_)); rotate_left; (exfalso; first | omega | (simp [eqC, cellsI, idv, idl] at hc; done) | (simp [eqC, cellsI, idv, idl] at hc; omega) | contradiction); (try clear hq) | (with_reducible refine Fork.mk (fun hc => ?_) (fun hq => ?_)); (exfalso; first | omega | (simp [eqC, cellsI, idv, idl] at hc; done) | (simp [eqC, cellsI, idv, idl] at hc; omega) | contradiction); (try clear hq) | (with_reducible refine Owe.mk ?_ ?_); (first | omega | (unfold most; omega) | decide +kernel | assumption | (simp [most]; done) | (simp [most]; omega)) | (with_reducible intro z hz); first | (replace hz := hz (by omega); subst hz) | subst hz)); try (conv => whnf)
       have hne : linL t x ≠ [] := fun e => hz (by rw [e]; rfl)
       have hk := linK_hit hx hno hne
       refine hfin _ _ _ _ ((Weak.row 3 (((linL t u).map uv).map .imm) rfl (by rw [lin_some hid (by rw [hk]; exact hne), hk, List.map_append, List.map_append, List.map_cons, List.map_nil, hue]; rfl))) rfl
   · (repeat ((conv => whnf); first | (with_reducible refine Fork.mk (fun hq => ?_) (fun hc => ?_)); rotate_left; (exfalso; first | omega | (simp [eqC, cellsI, idv, idl] at hc; done) | (simp [eqC, cellsI, idv, idl] at hc; omega) | contradiction); (try clear hq) | (with_reducible refine Fork.mk (fun hc => ?_) (fun hq => ?_)); (exfalso; first | omega | (simp [eqC, cellsI, idv, idl] at hc; done) | (simp [eqC, cellsI, idv, idl] at hc; omega) | contradiction); (try clear hq) | (with_reducible refine Owe.mk ?_ ?_); (first | omega | (unfold most; omega) | decide +kernel | assumption | (simp [most]; done) | (simp [most]; omega)) | (with_reducible intro z hz); first | (replace hz := hz (by omega); subst hz) | subst hz)); try (conv => whnf)
     obtain rfl : k = u.kids.length := by omega
     rw [List.take_length] at hno
     refine hfin _ _ _ _ ((Weak.nilSlot 0 27 8 rfl)) ?_
     rw [lin_none hid hno]
     rfl
theorem lineage_pc (t : Trip) (u : Ut) (h : u.count ≤ 100000000) : PC Tryd.prog envU 56 [uv u, idv t] [.sl 8 ((linL t u).map uv)] := (lineage_pcr t u.count u (Nat.le_refl _) h).pc
set_option maxHeartbeats 4000000 in
theorem eachkid_pc (f : FuncId) (g : Ut → Ut) (u : Ut) (hu : u.count ≤ 100000000) (hf : ∀ x ∈ u.kids, PC Tryd.prog envU f [uv x] [uv (g x)]) : PC Tryd.prog envU 70 [uv u, .fn f] [.sl 8 ((u.kids.map g).map uv)] := by
 have hue := uv_eq u
 have hlen : u.kids.length < u.count := by have := kids_counts u.kids; have := Ut.count_eq u; omega
 rw [hue]
 refine PC.of_vc (T := tb0) eqs_ok tb_ok rfl mixed Tryd.func70 rfl rfl ?_; intro Γ C WK LP fin h0 hW hC hB hR hLP hfin
 (repeat ((conv => whnf); first | (with_reducible refine Fork.mk (fun hq => ?_) (fun hc => ?_)); rotate_left; (exfalso; first | omega | (simp [eqC, cellsI, idv, idl] at hc; done) | (simp [eqC, cellsI, idv, idl] at hc; omega) | contradiction); (try clear hq) | (with_reducible refine Fork.mk (fun hc => ?_) (fun hq => ?_)); (exfalso; first | omega | (simp [eqC, cellsI, idv, idl] at hc; done) | (simp [eqC, cellsI, idv, idl] at hc; omega) | contradiction); (try clear hq) | (with_reducible refine Owe.mk ?_ ?_); (first | omega | (unfold most; omega) | decide +kernel | assumption | (simp [most]; done) | (simp [most]; omega)) | (with_reducible intro z hz); first | (replace hz := hz (by omega); subst hz) | subst hz)); try (conv => whnf)
 refine hLP _ _ _ Nat (fun k => ⟨[.any, .imm (.fn f), .ptr 0 1 0, .any, .any, .row 1 1, .any, .any, .any, .imm (.sl 8 (u.kids.map uv)), .imm (.int .i64 u.kids.length), .imm (.int .i64 (k : Nat)), .any, .any, .any, .any, .any, .any, .any, .any, .any, .any, .any], [.box 1 [.imm (.int .i64 u.id.x), .imm (.int .i64 u.id.y), .imm (.int .i64 u.id.z), .imm (.int .i64 u.kind), .imm (.str u.label), .imm (.sl 4 (u.head.map wdv)), .imm (.sl 4 (u.words.map wdv)), .imm (.sl 8 (u.kids.map uv))], .row 27 8 1 ((((u.kids.take k).map g).map uv).map .imm)]⟩) (fun k => k ≤ u.kids.length) (fun k => u.kids.length - k) 0 (Nat.zero_le _) ((Weak.nilSlot 5 27 8 rfl).trans (Weak.slots 2 (by first | omega | (rw [h0]; exact Nat.le_of_ble_eq_true rfl)) rfl rfl (by first | (simp only [List.all_cons, List.all_nil, blkBelow, belowL_imm, belowL, belowB, Bool.and_true, Bool.true_and]; done) | rfl | (simp only [List.all_cons, List.all_nil, blkBelow, belowL_imm, belowL, belowB, Bool.and_true, Bool.true_and]; first | done | decide) | simp [blkBelow, belowB, belowL, belowL_imm]) (by repeat (first | exact Wk.nil | refine Wk.drop16 ?_ | refine Wk.drop4 ?_ | refine Wk.drop ?_ | refine Wk.eq (by with_reducible rfl) rfl ?_ | refine Wk.eq (congrArg (fun z => PV.imm (IV.int IntKind.i64 z)) (by first | omega | (simp; done) | (simp; omega))) rfl ?_ | refine Wk.eq rfl rfl ?_)))) ?_
 intro k hk
 by_cases hlt : k < u.kids.length
 · obtain ⟨x, hx⟩ := kid_at hlt
   have hux := uv_eq x
   have hug := uv_eq (g x)
   have hF := hf x (List.mem_of_getElem? hx)
   rw [hux, hug] at hF
   have hL : (((((u.kids.take k).map g).map uv).map PV.imm)).length = k := by simp; omega
   (repeat ((conv => whnf); first | (with_reducible refine Fork.mk (fun hq => ?_) (fun hc => ?_)); rotate_left; (exfalso; first | omega | (simp [eqC, cellsI, idv, idl] at hc; done) | (simp [eqC, cellsI, idv, idl] at hc; omega) | contradiction); (try clear hq) | (with_reducible refine Fork.mk (fun hc => ?_) (fun hq => ?_)); (exfalso; first | omega | (simp [eqC, cellsI, idv, idl] at hc; done) | (simp [eqC, cellsI, idv, idl] at hc; omega) | contradiction); (try clear hq) | (with_reducible refine Owe.mk ?_ ?_); (first | omega | (unfold most; omega) | decide +kernel | assumption | (simp [most]; done) | (simp [most]; omega)) | (with_reducible intro z hz); first | (replace hz := hz (by omega); subst hz) | subst hz)); try (conv => whnf)
   refine Idx.mk k (uv x) _ rfl (by simp [hx]) (by rw [hux]; try rfl) ?_
   (repeat ((conv => whnf); first | (with_reducible refine Fork.mk (fun hq => ?_) (fun hc => ?_)); rotate_left; (exfalso; first | omega | (simp [eqC, cellsI, idv, idl] at hc; done) | (simp [eqC, cellsI, idv, idl] at hc; omega) | contradiction); (try clear hq) | (with_reducible refine Fork.mk (fun hc => ?_) (fun hq => ?_)); (exfalso; first | omega | (simp [eqC, cellsI, idv, idl] at hc; done) | (simp [eqC, cellsI, idv, idl] at hc; omega) | contradiction); (try clear hq) | (with_reducible refine Owe.mk ?_ ?_); (first | omega | (unfold most; omega) | decide +kernel | assumption | (simp [most]; done) | (simp [most]; omega)) | (with_reducible intro z hz); first | (replace hz := hz (by omega); subst hz) | subst hz)); try (conv => whnf)
   refine CallV.mk _ (hC _ _ _ (PCw.of (hF))) (fun js hjs => ?_); subst hjs
   (repeat ((conv => whnf); first | (with_reducible refine Fork.mk (fun hq => ?_) (fun hc => ?_)); rotate_left; (exfalso; first | omega | (simp [eqC, cellsI, idv, idl] at hc; done) | (simp [eqC, cellsI, idv, idl] at hc; omega) | contradiction); (try clear hq) | (with_reducible refine Fork.mk (fun hc => ?_) (fun hq => ?_)); (exfalso; first | omega | (simp [eqC, cellsI, idv, idl] at hc; done) | (simp [eqC, cellsI, idv, idl] at hc; omega) | contradiction); (try clear hq) | (with_reducible refine Owe.mk ?_ ?_); (first | omega | (unfold most; omega) | decide +kernel | assumption | (simp [most]; done) | (simp [most]; omega)) | (with_reducible intro z hz); first | (replace hz := hz (by omega); subst hz) | subst hz)); try (conv => whnf)
   refine ⟨k + 1, by omega, by dsimp only; omega, ((Weak.row 1 ((((u.kids.take (k + 1)).map g).map uv).map .imm) rfl (by rw [take_one hx]; simp [hug]))).trans ((Weak.renew 1 1 rfl (by first | omega | (intro _; rw [hk0 _ _ rfl]; exact Nat.le_of_ble_eq_true rfl)) (by repeat (first | exact trivial | refine And.intro (rgL_imms _ _ _ _) ?_ | refine And.intro rfl ?_))).trans (Weak.slots 2 (by first | omega | (rw [h0]; exact Nat.le_of_ble_eq_true rfl)) rfl rfl (by first | (simp only [List.all_cons, List.all_nil, blkBelow, belowL_imm, belowL, belowB, Bool.and_true, Bool.true_and]; done) | rfl | (simp only [List.all_cons, List.all_nil, blkBelow, belowL_imm, belowL, belowB, Bool.and_true, Bool.true_and]; first | done | decide) | simp [blkBelow, belowB, belowL, belowL_imm]) (by repeat (first | exact Wk.nil | refine Wk.drop16 ?_ | refine Wk.drop4 ?_ | refine Wk.drop ?_ | refine Wk.eq (by with_reducible rfl) rfl ?_ | refine Wk.eq (congrArg (fun z => PV.imm (IV.int IntKind.i64 z)) (by first | omega | (simp; done) | (simp; omega))) rfl ?_ | refine Wk.eq rfl rfl ?_))))⟩
 · (repeat ((conv => whnf); first | (with_reducible refine Fork.mk (fun hq => ?_) (fun hc => ?_)); rotate_left; (exfalso; first | omega | (simp [eqC, cellsI, idv, idl] at hc; done) | (simp [eqC, cellsI, idv, idl] at hc; omega) | contradiction); (try clear hq) | (with_reducible refine Fork.mk (fun hc => ?_) (fun hq => ?_)); (exfalso; first | omega | (simp [eqC, cellsI, idv, idl] at hc; done) | (simp [eqC, cellsI, idv, idl] at hc; omega) | contradiction); (try clear hq) | (with_reducible refine Owe.mk ?_ ?_); (first | omega | (unfold most; omega) | decide +kernel | assumption | (simp [most]; done) | (simp [most]; omega)) | (with_reducible intro z hz); first | (replace hz := hz (by omega); subst hz) | subst hz)); try (conv => whnf)
   obtain rfl : k = u.kids.length := by omega
   refine Imms.mk _ rfl ?_
   refine hfin _ ?_
   rw [List.take_length]
   exact ILes.refl _
end Go.Proofs.YtiohjjgncbhimaaDoor.Pu
