/-
  The way from a unit up to the root: Find, Parent, Ancestors. Plain mathematics, of no program.
-/
import Derived.Test.YtglkpmhamekpmaaVal
namespace Go.Proofs.Ytglkpmhamekpmaa
open Lab Lcs
mutual
def linL (id : Trip) : Ut → List Ut
 | .mk i k l h w kids => if i = id then [.mk i k l h w kids] else if (linK id kids).isEmpty then [] else linK id kids ++ [.mk i k l h w kids]
def linK (id : Trip) : List Ut → List Ut
 | [] => []
 | u :: r => if (linL id u).isEmpty then linK id r else linL id u
end
theorem lin_self {id : Trip} {u : Ut} (h : u.id = id) : linL id u = [u] := by
 cases u with
 | mk i k l hd w kids =>
   have : i = id := h
   rw [linL, if_pos this]
theorem linK_none : ∀ {id : Trip} {l : List Ut}, linK id l = [] → ∀ x ∈ l, linL id x = []
 | id, [], _, x, hx => by cases hx
 | id, u :: r, h, x, hx => by
   rw [linK] at h
   by_cases hu : (linL id u).isEmpty = true
   · rw [if_pos hu] at h
     rcases List.mem_cons.1 hx with rfl | hx
     · simpa using hu
     · exact linK_none h x hx
   · rw [if_neg hu] at h
     rw [h] at hu
     exact absurd rfl hu
theorem findIdx_hit {id : Trip} {l : List Ut} {k : Nat} {u : Ut} (hl : l[k]? = some u) (h : linK id (l.take k) = []) (hu : u.id = id) : (l.findIdx fun k => decide (k.id = id)) = k := by
 obtain ⟨hk, he⟩ := List.getElem?_eq_some_iff.1 hl
 rw [List.findIdx_eq hk]
 refine ⟨by rw [he, hu]; simp, fun j hj => ?_⟩
 have hm : l[j] ∈ l.take k := by
   rw [List.mem_take_iff_getElem]
   exact ⟨j, by omega, rfl⟩
 have h1 := linK_none h _ hm
 rw [decide_eq_false_iff_not]
 intro e
 rw [lin_self e] at h1
 cases h1
end Go.Proofs.Ytglkpmhamekpmaa
