/-
  Equality of trees: the reference's Same; the program's Equal. The reference: Right.
-/
import Derived.Deep.RegionHeld3
import Derived.Test.YtiohjjgncbhimaaDoorRal
import Derived.Test.YtiohjjgncbhimaaDoorVal2
namespace Go.Proofs.YtiohjjgncbhimaaDoor
open Go.RowKit (wrap32 wrap64 intOf Hid Below)
open Lab Lcs
theorem undrew {a w : World} (h : Below a.drew.heap.size a.drew w) : Below a.heap.size a w := ⟨h.os, h.tape, h.output, h.size, h.block⟩
end Go.Proofs.YtiohjjgncbhimaaDoor
namespace Go.Proofs.YtiohjjgncbhimaaDoor
open Go.RowKit (wrap32 wrap64 intOf Hid Below)
open Lab Lcs
def rightB (u : Ut) : Bool := u.all.all aloneB && u.all.all kidsB
theorem right_mk {id : Trip} {kind : Int} {label : Str} {head words : List Wd} {kids : List Ut} : rightB (.mk id kind label head words kids) = (aloneB (.mk id kind label head words kids) && kidsB (.mk id kind label head words kids) && kids.all rightB) := by
 show _ = (aloneB _ && kidsB _ && kids.all rightB)
 have h : ∀ l : List Ut, (l.all fun u => u.all.all aloneB && u.all.all kidsB) = ((Ut.alls l).all aloneB && (Ut.alls l).all kidsB) := by
   intro l
   induction l with
   | nil => simp [Ut.alls]
   | cons a r ih =>
     simp only [List.all_cons, Ut.alls, List.all_append, ih]
     cases a.all.all aloneB <;> cases a.all.all kidsB <;> cases (Ut.alls r).all aloneB <;> simp
 rw [show kids.all rightB = ((Ut.alls kids).all aloneB && (Ut.alls kids).all kidsB) from h kids]
 unfold rightB
 rw [all_mk, List.all_cons, List.all_cons]
 cases aloneB (.mk id kind label head words kids) <;> cases kidsB (.mk id kind label head words kids) <;> cases (Ut.alls kids).all aloneB <;> simp
theorem right_alone {id : Trip} {kind : Int} {label : Str} {head words : List Wd} {kids : List Ut} (h : aloneB (.mk id kind label head words kids) = false) : rightB (.mk id kind label head words kids) = false := by rw [right_mk, h]; rfl
theorem right_kids {id : Trip} {kind : Int} {label : Str} {head words : List Wd} {kids : List Ut} (h : kidsB (.mk id kind label head words kids) = false) : rightB (.mk id kind label head words kids) = false := by rw [right_mk, h, Bool.and_false]; rfl
theorem right_kid {id : Trip} {kind : Int} {label : Str} {head words : List Wd} {kids : List Ut} {k : Nat} {u : Ut} (hu : kids[k]? = some u) (h : rightB u = false) : rightB (.mk id kind label head words kids) = false := by
 rw [right_mk]
 have : kids.all rightB = false := by
   rw [List.all_eq_false]
   exact ⟨u, List.mem_of_getElem? hu, by rw [h]; decide⟩
 rw [this, Bool.and_false]
theorem inl_at {l : List Ut} {k j : Nat} {u x : Ut} (hj : l[j]? = some x) (hjk : j < k) (he : keyK x = keyK u) : inL ((l.take k).map keyK) (keyK u) = true := by
 rw [inL_iff, List.mem_map]
 obtain ⟨h1, h2⟩ := List.getElem?_eq_some_iff.1 hj
 exact ⟨x, by rw [List.mem_take_iff_getElem]; exact ⟨j, by omega, h2⟩, he⟩
theorem inl_no {l : List Ut} {k : Nat} {u : Ut} (h : ∀ (j : Nat) (x : Ut), j < k → l[j]? = some x → ¬ keyK x = keyK u) : inL ((l.take k).map keyK) (keyK u) = false := by
 cases hi : inL ((l.take k).map keyK) (keyK u) with
 | false => rfl
 | true =>
   rw [inL_iff, List.mem_map] at hi
   obtain ⟨x, hx, he⟩ := hi
   rw [List.mem_take_iff_getElem] at hx
   obtain ⟨j, hj, rfl⟩ := hx
   exact absurd he (h j _ (by omega) (List.getElem?_eq_getElem (by omega)))
def rightTo (kind : Int) (l : List Ut) : Prop := kidsTo kind l ∧ ∀ x ∈ l, rightB x = true
theorem right_done {id : Trip} {kind : Int} {label : Str} {head words : List Wd} {kids : List Ut} (h : rightTo kind kids) (ha : aloneB (.mk id kind label head words kids) = true) : rightB (.mk id kind label head words kids) = true := by
 rw [right_mk, ha, kids_done h.1, List.all_eq_true.2 h.2]
 rfl
theorem right_step {kind : Int} {kids : List Ut} {k : Nat} {u : Ut} (hu : kids[k]? = some u) (h : rightTo kind (kids.take k)) (h1 : ∀ (j : Nat) (x : Ut), j < k → kids[j]? = some x → ¬ keyK x = keyK u) (h2 : nestsB kind u.kind = true) (h3 : rightB u = true) : rightTo kind (kids.take (k + 1)) := by
 refine ⟨kids_step hu h.1 (inl_no h1) h2, fun x hx => ?_⟩
 rw [take_one hu] at hx
 rcases List.mem_append.1 hx with hx | hx
 · exact h.2 x hx
 · rw [List.mem_singleton.1 hx]; exact h3
end Go.Proofs.YtiohjjgncbhimaaDoor
