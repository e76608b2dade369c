/-
  slices.Compact at references: neighbors that are equal, once; the program's Authors.
-/
import Derived.Test.YtckamfmllkpafaaSrr
namespace Go.Proofs.Ytckamfmllkpafaa.Pw
open Go Go.Pv Go.RowKit Go.Proofs.Ytckamfmllkpafaa.Pu Go.Proofs.Ytckamfmllkpafaa.Pb
set_option linter.unusedSimpArgs false
open Lab Lcs Go.Proofs.Ytckamfmllkpafaa
set_option maxRecDepth 10000
set_option maxHeartbeats 16000000
def ded : List Rf → List Rf
 | [] => []
 | [x] => [x]
 | x :: y :: l => if x = y then ded (y :: l) else x :: ded (y :: l)
theorem mem_ded (z : Rf) : ∀ l : List Rf, z ∈ ded l ↔ z ∈ l
 | [] => by simp [ded]
 | [x] => by simp [ded]
 | x :: y :: l => by
   have ih := mem_ded z (y :: l)
   unfold ded
   split
   · rename_i h
     rw [ih, h]; simp
   · rw [List.mem_cons, ih, List.mem_cons (a := z) (b := x)]
theorem ded_len : ∀ l : List Rf, (ded l).length ≤ l.length
 | [] => by simp [ded]
 | [x] => by simp [ded]
 | x :: y :: l => by
   have ih := ded_len (y :: l)
   unfold ded
   split
   · simp only [List.length_cons] at ih ⊢; omega
   · simp only [List.length_cons] at ih ⊢; omega
theorem ded_snoc (x y : Rf) : ∀ l : List Rf, ded (l ++ [x, y]) = if x = y then ded (l ++ [x]) else ded (l ++ [x]) ++ [y]
 | [] => by
   by_cases h : x = y
   · subst h; simp [ded]
   · simp [ded, h]
 | [a] => by
   by_cases h : x = y
   · subst h; by_cases h2 : a = x <;> simp [ded, h2]
   · by_cases h2 : a = x
     · subst h2; simp [ded, h]
     · simp [ded, h, h2]
 | a :: b :: l => by
   have ih := ded_snoc x y (b :: l)
   simp only [List.cons_append] at ih ⊢
   unfold ded
   rw [ih]
   by_cases h : x = y <;> by_cases h2 : a = b <;> simp [h, h2]
theorem ded_take {l : List Rf} {k : Nat} {x y : Rf} (hx : l[k]? = some x) (hy : l[k + 1]? = some y) : ded (l.take (k + 2)) = if x = y then ded (l.take (k + 1)) else ded (l.take (k + 1)) ++ [y] := by
 have h := ded_snoc x y (l.take k)
 rw [← List.singleton_append (l := [y]), ← List.append_assoc, ← take_at hx, ← take_at hy] at h
 exact h
theorem ded_one (l : List Rf) : ded (l.take 1) = l.take 1 := by
 cases l <;> simp [ded]
theorem less_tr {x y z : Rf} (h1 : lessB x y = true) (h2 : lessB y z = true) : lessB x z = true := by rw [less_iff] at *; omega
theorem less_ir (x : Rf) : lessB x x = false := by rw [less_no]; omega
abbrev SS (l : List Rf) : Prop := l.Pairwise fun x y => lessB x y = true
theorem ss_eq : ∀ {l m : List Rf}, SS l → SS m → (∀ x, x ∈ l ↔ x ∈ m) → l = m
 | [], [], _, _, _ => rfl
 | [], y :: m, _, _, h => by have := (h y).2 List.mem_cons_self; cases this
 | x :: l, [], _, _, h => by have := (h x).1 List.mem_cons_self; cases this
 | x :: l, y :: m, h1, h2, h => by
   obtain ⟨a1, a2⟩ := List.pairwise_cons.1 h1
   obtain ⟨b1, b2⟩ := List.pairwise_cons.1 h2
   have e : x = y := by
     rcases List.mem_cons.1 ((h x).1 List.mem_cons_self) with e | hx
     · exact e
     · rcases List.mem_cons.1 ((h y).2 List.mem_cons_self) with e | hy
       · exact e.symm
       · have := less_tr (a1 y hy) (b1 x hx)
         rw [less_ir] at this; cases this
   subst e
   rw [ss_eq a2 b2 fun z => ?_]
   have hz := h z
   simp only [List.mem_cons] at hz
   constructor
   · intro hm
     rcases hz.1 (Or.inr hm) with e | hq
     · subst e; have := a1 _ hm; rw [less_ir] at this; cases this
     · exact hq
   · intro hm
     rcases hz.2 (Or.inr hm) with e | hq
     · subst e; have := b1 _ hm; rw [less_ir] at this; cases this
     · exact hq
theorem mem_add (z p : Rf) : ∀ l : List Rf, z ∈ addL p l ↔ z = p ∨ z ∈ l
 | [] => by simp [addL]
 | x :: r => by
   have ih := mem_add z p r
   unfold addL
   cases lessB x p with
   | true => rw [cond_true, List.mem_cons, ih, List.mem_cons]; constructor <;> (rintro (h | h | h) <;> simp [h])
   | false =>
     rw [cond_false]
     split
     · rename_i h; subst h; simp
     · simp
theorem ss_add (p : Rf) : ∀ l : List Rf, SS l → SS (addL p l)
 | [], _ => by simp [addL, SS]
 | x :: r, h => by
   obtain ⟨h1, h2⟩ := List.pairwise_cons.1 h
   have ih := ss_add p r h2
   unfold addL
   cases hb : lessB x p with
   | true =>
     rw [cond_true]
     refine List.pairwise_cons.2 ⟨fun z hz => ?_, ih⟩
     rcases (mem_add z p r).1 hz with e | hz
     · rw [e]; exact hb
     · exact h1 z hz
   | false =>
     rw [cond_false]
     split
     · exact h
     · rename_i hne
       have hl : lessB p x = true := by
         rw [less_no] at hb
         rw [less_iff]
         rcases Int.lt_trichotomy p.act x.act with h | h | h
         · exact Or.inl h
         · rcases Int.lt_trichotomy p.item x.item with h' | h' | h'
           · exact Or.inr ⟨h, h'⟩
           · exact absurd (by obtain ⟨a, b⟩ := p; obtain ⟨c, d⟩ := x; simp only at h h'; rw [h, h'] : x = p) hne
           · exact absurd (Or.inr ⟨h.symm, h'⟩) hb
         · exact absurd (Or.inl h) hb
       refine List.pairwise_cons.2 ⟨fun z hz => ?_, h⟩
       rcases List.mem_cons.1 hz with e | hz
       · rw [e]; exact hl
       · exact less_tr hl (h1 z hz)
theorem auth_both : ∀ (w : List Wd) (L : List Rf), SS L → SS (authL w L) ∧ ∀ z, z ∈ authL w L ↔ z ∈ w.map refW ∨ z ∈ L
 | [], L, h => ⟨h, fun z => by simp [authL]⟩
 | x :: r, L, h => by
   obtain ⟨h1, h2⟩ := auth_both r (addL (refW x) L) (ss_add _ _ h)
   refine ⟨h1, fun z => ?_⟩
   rw [authL, h2, mem_add, List.map_cons, List.mem_cons]
   constructor
   · rintro (h | h | h) <;> simp [h]
   · rintro ((h | h) | h) <;> simp [h]
theorem ss_ded : ∀ l : List Rf, (l.Pairwise fun x y => lessB y x = false) → SS (ded l)
 | [], _ => by simp [ded, SS]
 | [x], _ => by simp [ded, SS]
 | x :: y :: l, h => by
   obtain ⟨h1, h2⟩ := List.pairwise_cons.1 h
   have ih := ss_ded (y :: l) h2
   unfold ded
   split
   · exact ih
   · rename_i hne
     refine List.pairwise_cons.2 ⟨fun z hz => ?_, ih⟩
     have hz' := (mem_ded z _).1 hz
     obtain ⟨b1, b2⟩ := List.pairwise_cons.1 h2
     have hy := h1 y List.mem_cons_self
     have hl : lessB x y = true := by
       rw [less_no] at hy
       rw [less_iff]
       rcases Int.lt_trichotomy x.act y.act with h | h | h
       · exact Or.inl h
       · rcases Int.lt_trichotomy x.item y.item with h' | h' | h'
         · exact Or.inr ⟨h, h'⟩
         · exact absurd (by obtain ⟨a, b⟩ := x; obtain ⟨c, d⟩ := y; simp only at h h'; rw [h, h'] : x = y) hne
         · exact absurd (Or.inr ⟨h.symm, h'⟩) hy
       · exact absurd (Or.inl h) hy
     rcases List.mem_cons.1 hz' with e | hz2
     · rw [e]; exact hl
     · have hyz := b1 z hz2
       rw [less_no] at hyz
       rw [less_iff] at hl ⊢
       omega
theorem ded_srt (w : List Wd) : ded (srtR (w.map refW)) = authL w [] := by
 obtain ⟨h1, h2⟩ := auth_both w [] (by simp [SS])
 have hp : (srtR (w.map refW)).Pairwise fun x y => lessB y x = false := by
   have h := List.pairwise_mergeSort (le := fun x y : Rf => !(ltOf cfR y x)) (fun a b c hab hbc => by
     simp only [Bool.not_eq_true', ltR, less_no] at *; omega) (fun a b => by
     rw [ltR, ltR, Bool.or_eq_true, Bool.not_eq_true', Bool.not_eq_true', less_no, less_no]; omega) (w.map refW)
   refine h.imp fun {a b} hab => ?_
   simpa [ltR] using hab
 refine ss_eq (ss_ded _ hp) h1 fun z => ?_
 rw [mem_ded, h2]
 unfold srtR
 rw [List.mem_mergeSort]
 simp
theorem srtR_len (l : List Rf) : (srtR l).length = l.length := List.length_mergeSort l
def cpk (L : List Rf) (j : Nat) : List Rf := ded (L.take j) ++ L.drop (ded (L.take j)).length
theorem cpk_le (L : List Rf) (j : Nat) (hj : j ≤ L.length) : (ded (L.take j)).length ≤ j := by
 have := ded_len (L.take j)
 rw [List.length_take] at this
 omega
theorem cpk_len (L : List Rf) (j : Nat) (hj : j ≤ L.length) : (cpk L j).length = L.length := by
 have := cpk_le L j hj
 unfold cpk
 rw [List.length_append, List.length_drop]
 omega
theorem cpk_at {L : List Rf} {j i : Nat} {x : Rf} (hi : (ded (L.take j)).length ≤ i) (hx : L[i]? = some x) : (cpk L j)[i]? = some x := by
 unfold cpk
 rw [List.getElem?_append_right hi, List.getElem?_drop, show (ded (L.take j)).length + (i - (ded (L.take j)).length) = i by omega]
 exact hx
theorem cpk_eq {L : List Rf} {k : Nat} {x : Rf} (hx : L[k]? = some x) (hy : L[k + 1]? = some x) : cpk L (k + 2) = cpk L (k + 1) := by
 unfold cpk
 rw [ded_take hx hy, if_pos rfl]
theorem cpk_ne {L : List Rf} {k : Nat} {x y : Rf} (hx : L[k]? = some x) (hy : L[k + 1]? = some y) (h : x ≠ y) : cpk L (k + 2) = (cpk L (k + 1)).set (ded (L.take (k + 1))).length y ∧ (ded (L.take (k + 2))).length = (ded (L.take (k + 1))).length + 1 := by
 have hk := (List.getElem?_eq_some_iff.1 hy).1
 have hle := cpk_le L (k + 1) (by omega)
 unfold cpk
 rw [ded_take hx hy, if_neg h, List.length_append, List.length_singleton]
 refine ⟨?_, rfl⟩
 rw [List.set_append_right _ _ (Nat.le_refl _), Nat.sub_self, List.drop_eq_getElem_cons (i := (ded (L.take (k + 1))).length) (by omega), List.set_cons_zero, List.append_assoc]
 rfl
end Go.Proofs.Ytckamfmllkpafaa.Pw
