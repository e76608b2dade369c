/-
  UnitCorruption: the mathematics.
-/
import Derived.Test.YtcacnelhppakoaaDoorFe
namespace Go.Proofs.YtcacnelhppakoaaDoor.Pu
open Go Go.Pv
open Lab Lcs Go.Proofs.YtcacnelhppakoaaDoor
def Ut.withKids (u : Ut) (l : List Ut) : Ut := .mk u.id u.kind u.label u.head u.words l
theorem withKids_count (u : Ut) (l : List Ut) : (Ut.withKids u l).count = 1 + Ut.counts l := count_mk _ _ _ _ _ _
theorem withKids_all (u : Ut) (l : List Ut) : (Ut.withKids u l).all = Ut.withKids u l :: Ut.alls l := all_mk _ _ _ _ _ _
theorem mk_eta (u : Ut) : Ut.mk u.id u.kind u.label u.head u.words u.kids = u := by cases u; rfl
/-- What a unit must be for 'Valid' to be read. -/
def fine (x : Ut) : Prop := TameU x ∧ x.id.ok ∧ inI x.kind
def Fine (u : Ut) : Prop := ∀ x ∈ u.all, fine x
def Fines (l : List Ut) : Prop := ∀ x ∈ Ut.alls l, fine x
theorem Fine.kids {u : Ut} (h : Fine u) : Fines u.kids := fun x hx => h x (by rw [Ut.all_eq]; exact List.mem_cons_of_mem _ hx)
theorem Fine.self {u : Ut} (h : Fine u) : fine u := h u (self_all u)
theorem Fine.mk {u : Ut} (h : fine u) (hk : Fines u.kids) : Fine u := fun x hx => by
  rw [Ut.all_eq] at hx
  rcases List.mem_cons.1 hx with rfl | hx
  · exact h
  · exact hk x hx
theorem Fines.at {l : List Ut} (h : Fines l) {k : Nat} {x : Ut} (hx : l[k]? = some x) : Fine x := fun y hy => h y (mem_alls.2 ⟨x, List.mem_of_getElem? hx, hy⟩)
theorem Fines.set {l : List Ut} (h : Fines l) (k : Nat) {y : Ut} (hy : Fine y) : Fines (l.set k y) := fun x hx => by
  obtain ⟨z, hz, hxz⟩ := mem_alls.1 hx
  rcases List.mem_or_eq_of_mem_set hz with hz | hz
  · exact h x (mem_alls.2 ⟨z, hz, hxz⟩)
  · rw [hz] at hxz; exact hy x hxz
theorem Fines.add {l : List Ut} (h : Fines l) {y : Ut} (hy : Fine y) : Fines (l ++ [y]) := fun x hx => by
  obtain ⟨z, hz, hx⟩ := mem_alls.1 hx
  rcases List.mem_append.1 hz with hz | hz
  · exact h x (mem_alls.2 ⟨z, hz, hx⟩)
  · rw [List.mem_singleton.1 hz] at hx; exact hy x hx
theorem counts_set : ∀ (l : List Ut) (k : Nat) (y : Ut), Ut.counts (l.set k y) ≤ Ut.counts l + y.count
  | [], _, _ => by simp [Ut.counts]
  | a :: l, 0, y => by simp only [List.set_cons_zero, Ut.counts]; omega
  | a :: l, k + 1, y => by
    have := counts_set l k y
    simp only [List.set_cons_succ, Ut.counts]
    omega
theorem Fine.ok {u : Ut} (h : Fine u) : okU u := fun x hx => (h x hx).2
theorem Fine.tame {u : Ut} (h : Fine u) (hc : u.count ≤ 1000000000) : Tame u := ⟨hc, fun x hx => (h x hx).1⟩
theorem few_small {u : Ut} {m : Nat} (h : fewU u m = true) : Small m u := by
  unfold fewU at h
  simp only [Bool.and_eq_true, decide_eq_true_eq] at h
  obtain ⟨h1, h2⟩ := h
  obtain ⟨h3, h4⟩ := sizeN_few u 0 m (by omega) h1
  exact ⟨by omega, by omega, h2⟩
theorem small_fine {u : Ut} {m : Nat} (h : Small m u) (hm : m ≤ 1000) (hok : okU u) : Fine u := fun x hx => ⟨(h.tame hm).2 x hx, hok x hx⟩
theorem bad_kid {u : Ut} {l : List Ut} {x : Ut} (hx : x ∈ l) (h : aloneB x = false ∨ nestsB u.kind x.kind = false) : validB (Ut.withKids u l) = false := by
  unfold validB
  rcases h with h | h
  · have : (Ut.withKids u l).all.all aloneB = false := by
      rw [List.all_eq_false]
      exact ⟨x, by rw [withKids_all]; exact List.mem_cons_of_mem _ (mem_alls.2 ⟨x, hx, self_all x⟩), by simp [h]⟩
    rw [this]
    simp
  · have : (Ut.withKids u l).all.all kidsB = false := by
      rw [List.all_eq_false]
      refine ⟨Ut.withKids u l, by rw [withKids_all]; exact List.mem_cons_self, ?_⟩
      simp only [Ut.withKids, kidsB, Bool.and_eq_true, not_and]
      intro h1
      have := List.all_eq_true.1 h1 x hx
      rw [h] at this
      cases this
    rw [this]
    simp
theorem bad_dup {u : Ut} {l : List Ut} {x : Ut} (hx : x ∈ l) : validB (Ut.withKids u (l ++ [x])) = false := by
  unfold validB
  have : (Ut.withKids u (l ++ [x])).all.all kidsB = false := by
    rw [List.all_eq_false]
    refine ⟨Ut.withKids u (l ++ [x]), by rw [withKids_all]; exact List.mem_cons_self, ?_⟩
    simp only [Ut.withKids, kidsB, Bool.and_eq_true, not_and, decide_eq_true_eq]
    intro _ h
    rw [List.map_append, List.nodup_append] at h
    exact h.2.2 _ (List.mem_map_of_mem hx) _ (by simp) rfl
  rw [this]
  simp
theorem valid_kid {u x : Ut} (h : validB u = true) (hx : x ∈ u.kids) : aloneB x = true ∧ nestsB u.kind x.kind = true := by
  unfold validB at h
  simp only [Bool.and_eq_true] at h
  obtain ⟨⟨⟨_, h1⟩, h2⟩, _⟩ := h
  have h3 := List.all_eq_true.1 h1 x (by rw [Ut.all_eq]; exact List.mem_cons_of_mem _ (mem_alls.2 ⟨x, hx, self_all x⟩))
  have h4 := List.all_eq_true.1 h2 u (self_all u)
  refine ⟨h3, ?_⟩
  rw [← mk_eta u] at h4
  simp only [kidsB, Bool.and_eq_true] at h4
  exact List.all_eq_true.1 h4.1 x hx
theorem nest_zero (p : Int) : nestsB p 0 = false := by
  unfold nestsB
  repeat' split
  all_goals simp
theorem nest_self (p : Int) (h : p ≠ 3) : nestsB p p = false := by
  unfold nestsB
  repeat' split
  all_goals simp
  all_goals omega
theorem nest_book {p k : Int} (h : nestsB p k = true) : k ≠ 0 := by
  rintro rfl
  rw [nest_zero] at h
  cases h
theorem alone_zero_label {id : Trip} {kind : Int} {label : Str} {head words : List Wd} {kids : List Ut} (hk : kind ≠ 0) : aloneB (.mk id kind (⟨#[48]⟩ ++ label) head words kids) = false := by
  have h : mayL (⟨#[48]⟩ ++ label : ByteArray).data.toList = false := by
    unfold mayL
    rw [decide_eq_false_iff_not]
    intro h
    exact h.2.2.1 (by simp)
  simp only [aloneB, h, if_neg hk]
  simp
theorem alone_two_words {id : Trip} {kind : Int} {label : Str} {head words : List Wd} {kids : List Ut} : aloneB (.mk id kind label head (words ++ [⟨⟨#[116, 119, 111, 32, 119, 111, 114, 100, 115]⟩, .zero⟩]) kids) = false := by
  have hw : wordB ⟨#[116, 119, 111, 32, 119, 111, 114, 100, 115]⟩ = false := by decide +kernel
  have h : rowB (words ++ [⟨⟨#[116, 119, 111, 32, 119, 111, 114, 100, 115]⟩, .zero⟩]) = false := by
    unfold rowB mayB textsOf
    rw [List.map_append, List.all_append]
    simp [hw]
  simp only [aloneB, h]
  split <;> simp
end Go.Proofs.YtcacnelhppakoaaDoor.Pu
