/-
  Corpus: legal order of enacted items as an order; sorted lists of them (of no program but for the names).
-/
import Derived.Test.YtglkpmhamekpmaaWCi
import Derived.Test.YtglkpmhamekpmaaSov
namespace Go.Proofs.Ytglkpmhamekpmaa.Po
open Go Go.Pv Go.RowKit
set_option linter.unusedSimpArgs false
open Lab Lcs Go.Proofs.Ytglkpmhamekpmaa Go.Proofs.Ytglkpmhamekpmaa.Pu
open Go.Sort (SWO)
open Go.Proofs (ltOf)
theorem cmpZ_lt {a b : Int} : cmpZ a b < 0 ↔ a < b := by unfold cmpZ; repeat' split; all_goals omega
theorem cmpZ_zero {a b : Int} : cmpZ a b = 0 ↔ a = b := by unfold cmpZ; repeat' split; all_goals omega
theorem legE_lt {a b : Ei} : legE a b < 0 ↔ a.day < b.day ∨ (a.day = b.day ∧ (a.act < b.act ∨ (a.act = b.act ∧ a.item < b.item))) := by
 unfold legE
 have h1 := @cmpZ_lt a.day b.day
 have h2 := @cmpZ_lt a.act b.act
 have h3 := @cmpZ_lt a.item b.item
 have h4 := @cmpZ_zero a.day b.day
 have h5 := @cmpZ_zero a.act b.act
 split
 · rename_i h; rw [h1]; have : ¬ a.day = b.day := fun e => h (h4.2 e); omega
 · rename_i h
   have e1 : a.day = b.day := h4.1 (by omega)
   split
   · rename_i g; rw [h2]; have : ¬ a.act = b.act := fun e => g (h5.2 e); omega
   · rename_i g
     have e2 : a.act = b.act := h5.1 (by omega)
     rw [h3]; omega
theorem ltE_iff {a b : Ei} : ltOf legE a b = true ↔ a.day < b.day ∨ (a.day = b.day ∧ (a.act < b.act ∨ (a.act = b.act ∧ a.item < b.item))) := by
 unfold ltOf; rw [decide_eq_true_iff, legE_lt]
theorem ltE_no {a b : Ei} : ltOf legE a b = false ↔ ¬ (a.day < b.day ∨ (a.day = b.day ∧ (a.act < b.act ∨ (a.act = b.act ∧ a.item < b.item)))) := by
 rw [← ltE_iff]; simp
theorem swoE : SWO (ltOf legE) where
 irrefl x := by rw [ltE_no]; omega
 trans x y z h1 h2 := by rw [ltE_iff] at *; omega
 ntrans x y z h1 h2 := by rw [ltE_no] at *; omega
def sameP (a b : Ei) : Prop := a.day = b.day ∧ a.act = b.act ∧ a.item = b.item
theorem sorted_uniq : ∀ {l l' : List Ei}, l'.Perm l → (∀ x ∈ l, ∀ y ∈ l, sameP x y → x = y) → l.Pairwise (fun a b => ltOf legE b a = false) → l'.Pairwise (fun a b => ltOf legE b a = false) → l' = l
 | [], l', hp, _, _, _ => List.Perm.eq_nil hp
 | a :: l, [], hp, _, _, _ => by have := hp.length_eq; simp at this
 | a :: l, b :: l', hp, hd, hs, hs' => by
   have hab : a = b := by
     rw [List.pairwise_cons] at hs hs'
     have h1 : ltOf legE b a = false := by
       rcases List.mem_cons.1 (hp.subset List.mem_cons_self) with h | h
       · rw [h]; exact swoE.irrefl a
       · exact hs.1 b h
     have h2 : ltOf legE a b = false := by
       rcases List.mem_cons.1 (hp.symm.subset List.mem_cons_self) with h | h
       · rw [h]; exact swoE.irrefl b
       · exact hs'.1 a h
     refine hd a List.mem_cons_self b (hp.subset List.mem_cons_self) ?_
     rw [ltE_no] at h1 h2
     unfold sameP
     omega
   subst hab
   rw [List.pairwise_cons] at hs hs'
   rw [sorted_uniq (hp.cons_inv) (fun x hx y hy => hd x (List.mem_cons_of_mem _ hx) y (List.mem_cons_of_mem _ hy)) hs.2 hs'.2]
def sortE (l : List Ei) : List Ei := l.mergeSort fun a b => !(ltOf legE b a)
theorem sortE_perm (l : List Ei) : (sortE l).Perm l := List.mergeSort_perm ..
theorem sortE_sorted (l : List Ei) : (sortE l).Pairwise fun a b => ltOf legE b a = false := by
 have h := List.pairwise_mergeSort (le := fun a b => !(ltOf legE b a)) (fun a b c h1 h2 => by
   simp only [Bool.not_eq_true'] at *
   exact swoE.ntrans c b a h2 h1) (fun a b => by
   simp only [Bool.or_eq_true, Bool.not_eq_true']
   by_cases h : ltOf legE b a = true
   · right; rw [ltE_no]; rw [ltE_iff] at h; omega
   · left; simpa using h) l
 exact h.imp fun h => by simpa using h
theorem sortE_uniq {l l' : List Ei} (hp : l'.Perm l) (hd : ∀ x ∈ l, ∀ y ∈ l, sameP x y → x = y) (hs : l'.Pairwise fun a b => ltOf legE b a = false) : l' = sortE l :=
 sorted_uniq (hp.trans (sortE_perm l).symm) (fun x hx y hy => hd x ((sortE_perm l).subset hx) y ((sortE_perm l).subset hy)) (sortE_sorted l) hs
end Go.Proofs.Ytglkpmhamekpmaa.Po
