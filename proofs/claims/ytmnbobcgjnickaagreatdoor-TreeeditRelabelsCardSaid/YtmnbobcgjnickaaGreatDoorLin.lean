/-
  The way from a unit up to the root: Find, Parent, Ancestors. Plain mathematics, of no program.
-/
import Derived.Test.YtmnbobcgjnickaaGreatDoorVal
namespace Go.Proofs.YtmnbobcgjnickaaGreatDoor
open Lab Lcs
mutual
def linL (id : Trip) : Ut → List Ut
 | .mk i k l h w kids => if i = id then [.mk i k l h w kids] else if (linK id kids).isEmpty then [] else linK id kids ++ [.mk i k l h w kids]
def linK (id : Trip) : List Ut → List Ut
 | [] => []
 | u :: r => if (linL id u).isEmpty then linK id r else linL id u
end
theorem lin_self {id : Trip} {u : Ut} (h : u.id = id) : linL id u = [u] := by
 cases u with
 | mk i k l hd w kids =>
   have : i = id := h
   rw [linL, if_pos this]
theorem lin_none {id : Trip} {u : Ut} (h : u.id ≠ id) (hk : linK id u.kids = []) : linL id u = [] := by
 cases u with
 | mk i k l hd w kids =>
   have hi : ¬ i = id := h
   have hk' : linK id kids = [] := hk
   rw [linL, if_neg hi, hk']
   rfl
theorem lin_some {id : Trip} {u : Ut} (h : u.id ≠ id) (hk : linK id u.kids ≠ []) : linL id u = linK id u.kids ++ [u] := by
 cases u with
 | mk i k l hd w kids =>
   have hi : ¬ i = id := h
   have hk' : linK id kids ≠ [] := hk
   rw [linL, if_neg hi, if_neg (by simpa using hk')]
   rfl
theorem linK_app (id : Trip) : ∀ a b : List Ut, linK id a = [] → linK id (a ++ b) = linK id b
 | [], _, _ => rfl
 | u :: r, b, h => by
   rw [linK] at h
   rw [List.cons_append, linK]
   by_cases hu : (linL id u).isEmpty = true
   · rw [if_pos hu] at h ⊢
     exact linK_app id r b h
   · rw [if_neg hu] at h
     rw [h] at hu
     exact absurd rfl hu
theorem linK_step {id : Trip} {l : List Ut} {k : Nat} {u : Ut} (hl : l[k]? = some u) (h : linK id (l.take k) = []) (hu : linL id u = []) : linK id (l.take (k + 1)) = [] := by
 rw [take_one hl, linK_app id _ _ h, linK, hu]
 rfl
theorem linK_hit {id : Trip} {l : List Ut} {k : Nat} {u : Ut} (hl : l[k]? = some u) (h : linK id (l.take k) = []) (hu : linL id u ≠ []) : linK id l = linL id u := by
 have h1 : l = l.take k ++ (u :: l.drop (k + 1)) := by
   obtain ⟨hk, he⟩ := List.getElem?_eq_some_iff.1 hl
   rw [← he, List.getElem_cons_drop, List.take_append_drop]
 rw [h1, linK_app id _ _ h, linK, if_neg (by simpa using hu)]
theorem linK_none : ∀ {id : Trip} {l : List Ut}, linK id l = [] → ∀ x ∈ l, linL id x = []
 | id, [], _, x, hx => by cases hx
 | id, u :: r, h, x, hx => by
   rw [linK] at h
   by_cases hu : (linL id u).isEmpty = true
   · rw [if_pos hu] at h
     rcases List.mem_cons.1 hx with rfl | hx
     · simpa using hu
     · exact linK_none h x hx
   · rw [if_neg hu] at h
     rw [h] at hu
     exact absurd rfl hu
def parR (id : Trip) : List Ut → Trip × Int × Bool
 | _ :: p :: _ => (p.id, ((p.kids.findIdx fun k => decide (k.id = id) : Nat) : Int), true)
 | _ => (.zero, -1, false)
theorem findIdx_hit {id : Trip} {l : List Ut} {k : Nat} {u : Ut} (hl : l[k]? = some u) (h : linK id (l.take k) = []) (hu : u.id = id) : (l.findIdx fun k => decide (k.id = id)) = k := by
 obtain ⟨hk, he⟩ := List.getElem?_eq_some_iff.1 hl
 rw [List.findIdx_eq hk]
 refine ⟨by rw [he, hu]; simp, fun j hj => ?_⟩
 have hm : l[j] ∈ l.take k := by
   rw [List.mem_take_iff_getElem]
   exact ⟨j, by omega, rfl⟩
 have h1 := linK_none h _ hm
 rw [decide_eq_false_iff_not]
 intro e
 rw [lin_self e] at h1
 cases h1
theorem lin_head : ∀ (n : Nat) {id : Trip} {u : Ut}, u.count ≤ n → ∀ x r, linL id u = x :: r → x.id = id ∧ x ∈ u.all
 | 0, id, u, hn, x, r, _ => by have := count_pos u; omega
 | n + 1, id, u, hn, x, r, h => by
   by_cases hi : u.id = id
   · rw [lin_self hi] at h
     injection h with h1 _
     subst h1
     exact ⟨hi, self_all _⟩
   · by_cases hk : linK id u.kids = []
     · rw [lin_none hi hk] at h
       cases h
     · rw [lin_some hi hk] at h
       have key : ∀ (l : List Ut), (∀ y ∈ l, y.count ≤ n) → linK id l ≠ [] → ∃ y ∈ l, ∃ x r, linL id y = x :: r ∧ linK id l = x :: r := by
         intro l
         induction l with
         | nil => intro _ h; exact absurd rfl h
         | cons y l ih =>
           intro hc hne
           rw [linK] at hne ⊢
           by_cases hy : (linL id y).isEmpty = true
           · rw [if_pos hy] at hne ⊢
             obtain ⟨z, hz, q⟩ := ih (fun z hz => hc z (List.mem_cons_of_mem _ hz)) hne
             exact ⟨z, List.mem_cons_of_mem _ hz, q⟩
           · rw [if_neg hy]
             cases hl : linL id y with
             | nil => rw [hl] at hy; exact absurd rfl hy
             | cons x r => exact ⟨y, List.mem_cons_self, x, r, hl, rfl⟩
       have hkn : ∀ y ∈ u.kids, y.count ≤ n := by
         intro y hy
         obtain ⟨k, hk, rfl⟩ := List.getElem_of_mem hy
         cases u with
         | mk i kk l hd w kids =>
           exact Nat.le_of_lt_succ (Nat.lt_of_lt_of_le (kid_lt (kids := kids) (List.getElem?_eq_getElem hk)) hn)
       obtain ⟨y, hy, x', r', h1, h2⟩ := key u.kids hkn hk
       rw [h2] at h
       injection h with h3 _
       subst h3
       obtain ⟨g1, g2⟩ := lin_head n (hkn y hy) x' r' h1
       refine ⟨g1, ?_⟩
       cases u with
       | mk i kk l hd w kids =>
         obtain ⟨k, hk, rfl⟩ := List.getElem_of_mem hy
         exact kid_all (List.getElem?_eq_getElem hk) _ g2
end Go.Proofs.YtmnbobcgjnickaaGreatDoor
