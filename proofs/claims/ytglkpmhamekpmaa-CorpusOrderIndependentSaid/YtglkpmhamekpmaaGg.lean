/-
  Corpus: since when an item is known, by the reference. Corpus: the law of finds. Corpus: the acts in legal order, by the program.
-/
import Derived.Test.YtglkpmhamekpmaaGf
namespace Go.Proofs.Ytglkpmhamekpmaa.Po
open Go Go.Pv Go.RowKit
set_option linter.unusedSimpArgs false
open Lab Lcs Go.Proofs.Ytglkpmhamekpmaa Go.Proofs.Ytglkpmhamekpmaa.Pu
set_option maxRecDepth 10000
set_option maxHeartbeats 32000000
end Go.Proofs.Ytglkpmhamekpmaa.Po
namespace Go.Proofs.Ytglkpmhamekpmaa.Po
open Go Go.Pv Go.RowKit
set_option linter.unusedSimpArgs false
open Lab Lcs Go.Proofs.Ytglkpmhamekpmaa Go.Proofs.Ytglkpmhamekpmaa.Pu
set_option maxRecDepth 10000
set_option maxHeartbeats 32000000
end Go.Proofs.Ytglkpmhamekpmaa.Po
namespace Go.Proofs.Ytglkpmhamekpmaa.Po
open Go Go.Pv Go.RowKit
set_option linter.unusedSimpArgs false
open Lab Lcs Go.Proofs.Ytglkpmhamekpmaa Go.Proofs.Ytglkpmhamekpmaa.Pu
open Go.Sort (SWO)
open Go.Proofs (ltOf)
set_option maxRecDepth 10000
set_option maxHeartbeats 32000000
def legA (a b : Ac) : Int := if cmpZ a.day b.day ≠ 0 then cmpZ a.day b.day else if cmpZ a.num b.num ≠ 0 then cmpZ a.num b.num else cmpZ 0 0
theorem legA_lt {a b : Ac} : legA a b < 0 ↔ ltA a b := by
 unfold legA ltA
 have h1 := @cmpZ_lt a.day b.day
 have h2 := @cmpZ_lt a.num b.num
 have h3 := @cmpZ_lt 0 0
 have h4 := @cmpZ_zero a.day b.day
 have h5 := @cmpZ_zero a.num b.num
 split
 · rename_i h; rw [h1]; have : ¬ a.day = b.day := fun e => h (h4.2 e); omega
 · rename_i h
   have e1 : a.day = b.day := h4.1 (by omega)
   split
   · rename_i g; rw [h2]; have : ¬ a.num = b.num := fun e => g (h5.2 e); omega
   · rename_i g
     have e2 : a.num = b.num := h5.1 (by omega)
     rw [h3]; omega
theorem ltAc_iff {a b : Ac} : ltOf legA a b = true ↔ ltA a b := by unfold ltOf; rw [decide_eq_true_iff, legA_lt]
theorem ltAc_no {a b : Ac} : ltOf legA a b = false ↔ ¬ ltA a b := by rw [← ltAc_iff]; simp
theorem actsA_uniq : ∀ {l l' : List Ac}, l'.Perm l → l.Pairwise ltA → l'.Pairwise (fun a b => ltOf legA b a = false) → l' = l
 | [], l', hp, _, _ => List.Perm.eq_nil hp
 | a :: l, [], hp, _, _ => by have := hp.length_eq; simp at this
 | a :: l, b :: l', hp, hs, hs' => by
   have hab : b = a := by
     rw [List.pairwise_cons] at hs hs'
     rcases List.mem_cons.1 (hp.subset List.mem_cons_self) with h | h
     · exact h
     · have h1 := hs.1 b h
       rcases List.mem_cons.1 (hp.symm.subset List.mem_cons_self) with h2 | h2
       · rw [h2]
       · have := hs'.1 a h2
         rw [ltAc_no] at this
         exact absurd h1 this
   subst hab
   rw [List.pairwise_cons] at hs hs'
   rw [actsA_uniq hp.cons_inv hs.2 hs'.2]
end Go.Proofs.Ytglkpmhamekpmaa.Po
