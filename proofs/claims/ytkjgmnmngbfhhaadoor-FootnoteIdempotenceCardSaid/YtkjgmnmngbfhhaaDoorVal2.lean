/-
  The contracts of Valid and IsBare.
-/
import Derived.Test.YtkjgmnmngbfhhaaDoorChi
import Derived.Test.YtkjgmnmngbfhhaaDoorWdc
namespace Go.Proofs.YtkjgmnmngbfhhaaDoor
open Go.RowKit (wrap32 wrap64 intOf Hid Below)
open Lab Lcs
theorem kids_counts : ∀ l : List Ut, l.length ≤ Ut.counts l
 | [] => Nat.zero_le _
 | u :: r => by
   have h1 := count_pos u
   have h2 := kids_counts r
   simp only [List.length_cons, Ut.counts]
   omega
theorem sub_count : ∀ (N : Nat) (u x : Ut), u.count ≤ N → x ∈ u.all → x.count ≤ u.count
 | 0, u, _, h, _ => by have := count_pos u; omega
 | N + 1, .mk id kind label head words kids, x, h, hx => by
   rw [all_mk] at hx
   rcases List.mem_cons.1 hx with rfl | hx
   · exact Nat.le_refl _
   · obtain ⟨k, hk, hxk⟩ := mem_alls.1 hx
     obtain ⟨j, hj, rfl⟩ := List.getElem_of_mem hk
     have hlt := kid_lt (id := id) (kind := kind) (label := label) (head := head) (words := words) (List.getElem?_eq_getElem hj)
     have := sub_count N _ x (by omega) hxk
     omega
end Go.Proofs.YtkjgmnmngbfhhaaDoor
