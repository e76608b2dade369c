/-
  Words: the reference's Texts, row and short; unmarked; equality of rows.
-/
import Derived.Test.YtkjgmnmngbfhhaaDoorWds
namespace Go.Proofs.YtkjgmnmngbfhhaaDoor
open Go.RowKit (wrap32 wrap64 intOf Hid Below)
open Lab Lcs
def shortB (L : List Wd) : Bool := L.all (fun a => decide (a.text.size ≤ 100)) && decide (L.length ≤ 300)
theorem all_mem {L : List Wd} {k : Nat} {a : Wd} {p : Wd → Bool} (h : L[k]? = some a) (hp : p a = false) : L.all p = false := by
 rw [List.all_eq_false]
 exact ⟨a, List.mem_of_getElem? h, by rw [hp]; decide⟩
theorem all_take {L : List Wd} {k : Nat} {a : Wd} {p : Wd → Bool} (h : L[k]? = some a) (h1 : (L.take k).all p = true) (hp : p a = true) : (L.take (k + 1)).all p = true := by
 obtain ⟨hk, he⟩ := List.getElem?_eq_some_iff.1 h
 rw [List.take_succ_eq_append_getElem hk, List.all_append, h1, he]
 simp [hp]
set_option maxHeartbeats 4000000 in
set_option maxRecDepth 100000 in
theorem short_any (L : List Wd) (n c : Nat) (A : Option Addr) (w : World) (hl : Wds w A n c L) :
   Calls Tryd.prog 51 #[.slice A n c] w fun e w' => e = .returned (.bool (shortB L)) ∧ w = w' := by
 have HL := Lib.hid hl
 have HLn := Lib.hid hl.1
 have hnc := hl.2.1
 have hc := hl.2.2.1
 clear hl
 go_enter Tryd.func51, Tryd.ntmps51
 go_wp2
 go_loop [3] (fun i => ∃ k : Nat, k ≤ n ∧ i = .int .i64 k ∧ (L.take k).all (fun a => decide (a.text.size ≤ 100)) = true) (fun i => n - (intOf i).toNat)
 case atStart => exact ⟨0, Nat.zero_le _, rfl, rfl⟩
 case round =>
   obtain ⟨k, hk, rfl, hal⟩ := hrel
   have HAl := Lib.hid hal
   clear hal
   by_cases hlt : k < n
   · obtain ⟨b, off, a, rfl, hblt, ha, c0, c1, c2, c3⟩ := HL.out.at_ (Below.refl _ _) hlt
     have HA := Lib.hid ha
     clear ha
     by_cases hs : a.text.size ≤ 100
     · have HE := Lib.hid (all_take (p := fun a => decide (a.text.size ≤ 100)) HA.out HAl.out (decide_eq_true hs))
       go_wp2
       go_round
       case rel => exact ⟨k + 1, by omega, by go_num, HE.out⟩
       case measure => simp [intOf]; omega
     · have HE : Hid (shortB L = false) := Lib.hid (by
         unfold shortB
         rw [all_mem (p := fun a => decide (a.text.size ≤ 100)) HA.out (decide_eq_false hs)]
         rfl)
       have hs' : 100 < a.text.size := by omega
       clear hs
       go_wp2
       go_ret
       exact ⟨ret_bool HE.out.symm, rfl⟩
   · obtain rfl : k = n := by omega
     have HE : Hid (shortB L = decide (k ≤ 300)) := Lib.hid (by
       have h := HAl.out
       rw [List.take_of_length_le (by rw [HLn.out]; exact Nat.le_refl _)] at h
       unfold shortB
       rw [h, HLn.out]
       rfl)
     by_cases h3 : k ≤ 300
     · go_wp2
       go_ret
       exact ⟨ret_bool (by rw [HE.out]; first | rfl | (simp; done) | (simp; omega) | (simp [h3])), rfl⟩
     · have h3' : 300 < k := by omega
       clear h3
       go_wp2
       go_ret
       exact ⟨ret_bool (by rw [HE.out]; first | rfl | (simp; done) | (simp; omega)), rfl⟩
end Go.Proofs.YtkjgmnmngbfhhaaDoor
