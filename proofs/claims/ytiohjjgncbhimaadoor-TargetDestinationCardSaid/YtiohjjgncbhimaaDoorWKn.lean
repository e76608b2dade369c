/-
  Bounds of indices.
-/
import Derived.Test.YtiohjjgncbhimaaDoorWKi
namespace Go.Proofs.YtiohjjgncbhimaaDoor.Pk
open Go Go.Pv Go.RowKit Go.Proofs.YtiohjjgncbhimaaDoor.Pu Go.Proofs.YtiohjjgncbhimaaDoor.Pa Go.Proofs.YtiohjjgncbhimaaDoor.Pb
set_option linter.unusedSimpArgs false
open Lab Lcs Go.Proofs.YtiohjjgncbhimaaDoor
set_option maxRecDepth 10000
set_option maxHeartbeats 32000000
theorem find_count (t : Trip) (u : Ut) : (findU t u).count ≤ u.count := by
 unfold findU
 cases hq : linL t u with
 | nil => exact count_pos u
 | cons x r => exact Pu.all_count (lin_head u.count (Nat.le_refl _) x r hq).2
theorem ins_bound (u : Ut) (p : List Stp) (z : Int) : (insA u p z).2.1 ≤ u.count + 1 := by
 unfold insA
 split
 · unfold insG
   split
   · split
     · generalize (oneA u p).1 = t
       unfold placeF
       have h1 := par_bound (t := t) (u := u)
       have h2 := find_count t u
       have h3 := Ut.count_eq (findU t u)
       have h4 := kids_counts (findU t u).kids
       split
       · show (0 : Int) ≤ _; omega
       · split
         · show (((findU t u).kids.length : Nat) : Int) ≤ _; omega
         · split
           · show (parV t u).2.1 + 1 ≤ _; omega
           · show (parV t u).2.1 ≤ _; omega
     · show (0 : Int) ≤ _; omega
   · show (0 : Int) ≤ _; omega
 · show (0 : Int) ≤ _; omega
theorem where_bound (u : Ut) (t : Trip) (z : Int) : (whereF u z t).2.1 ≤ u.count + 1 := by
 unfold whereF
 have h1 := par_bound (t := t) (u := u)
 have h2 := find_count t u
 have h3 := Ut.count_eq (findU t u)
 have h4 := kids_counts (findU t u).kids
 split
 · show (0 : Int) ≤ _; omega
 · split
   · show (((findU t u).kids.length : Nat) : Int) ≤ _; omega
   · split
     · show (0 : Int) ≤ _; omega
     · show (parV t u).2.1 + (if z = 2 then 1 else 0) ≤ _
       split <;> omega
end Go.Proofs.YtiohjjgncbhimaaDoor.Pk
