/-
  Words: unmarked; equality of rows.
-/
import Derived.Test.YtkjgmnmngbfhhaaDoorWdb
namespace Go.Proofs.YtkjgmnmngbfhhaaDoor
open Go.RowKit (wrap32 wrap64 intOf Hid Below)
open Lab Lcs
theorem trip_part {x y z a b c : Int} (h : ¬ (⟨x, y, z⟩ : Trip) = ⟨a, b, c⟩) : (¬ x = a) ∨ (x = a ∧ ¬ y = b) ∨ (x = a ∧ y = b ∧ ¬ z = c) := by
 by_cases h1 : x = a
 · by_cases h2 : y = b
   · by_cases h3 : z = c
     · exact absurd (by rw [h1, h2, h3]) h
     · exact Or.inr (Or.inr ⟨h1, h2, h3⟩)
   · exact Or.inr (Or.inl ⟨h1, h2⟩)
 · exact Or.inl h1
theorem word_part {s t : Str} {x y z a b c : Int} (h : ¬ (⟨s, ⟨x, y, z⟩⟩ : Wd) = ⟨t, ⟨a, b, c⟩⟩) : (¬ s = t) ∨ (s = t ∧ ¬ x = a) ∨ (s = t ∧ x = a ∧ ¬ y = b) ∨ (s = t ∧ x = a ∧ y = b ∧ ¬ z = c) := by
 by_cases h0 : s = t
 · right
   have h' : ¬ (⟨x, y, z⟩ : Trip) = ⟨a, b, c⟩ := fun e => h (by rw [h0, e])
   rcases trip_part h' with h1 | ⟨h1, h2⟩ | ⟨h1, h2, h3⟩
   · exact Or.inl ⟨h0, h1⟩
   · exact Or.inr (Or.inl ⟨h0, h1, h2⟩)
   · exact Or.inr (Or.inr ⟨h0, h1, h2, h3⟩)
 · exact Or.inl h0
theorem take_eq {α : Type} {L M : List α} {k : Nat} {a : α} (h : L.take k = M.take k) (h1 : L[k]? = some a) (h2 : M[k]? = some a) : L.take (k + 1) = M.take (k + 1) := by
 obtain ⟨g1, e1⟩ := List.getElem?_eq_some_iff.1 h1
 obtain ⟨g2, e2⟩ := List.getElem?_eq_some_iff.1 h2
 rw [List.take_succ_eq_append_getElem g1, List.take_succ_eq_append_getElem g2, h, e1, e2]
theorem ne_at {α : Type} {L M : List α} {k : Nat} {a b : α} (hne : ¬ a = b) (h1 : L[k]? = some a) (h2 : M[k]? = some b) : ¬ L = M := by
 rintro rfl
 rw [h1] at h2
 exact hne (Option.some.inj h2)
set_option maxHeartbeats 4000000 in
set_option maxRecDepth 100000 in
theorem rows_any (L M : List Wd) (n c m d : Nat) (A B : Option Addr) (w : World) (hl : Wds w A n c L) (hm : Wds w B m d M) :
   Calls Tryd.prog 49 #[.slice A n c, .slice B m d] w fun e w' => e = .returned (.bool (decide (L = M))) ∧ ∃ q, w' = w.drewN q := by
 have HL := Lib.hid hl
 have HM := Lib.hid hm
 have HLn := Lib.hid hl.1
 have HMn := Lib.hid hm.1
 have hnc := hl.2.1
 have hc := hl.2.2.1
 have hmd := hm.2.1
 have hd := hm.2.2.1
 clear hl hm
 by_cases hnm : n = m
 · subst hnm
   go_enter Tryd.func49, Tryd.ntmps49
   go_wp2
   go_loopw [5] (fun i wr => ∃ k : Nat, k ≤ n ∧ i = .int .i64 k ∧ L.take k = M.take k ∧ ∃ q, wr = w.drewN q) (fun i _ => n - (intOf i).toNat)
   case atStart => exact ⟨0, Nat.zero_le _, rfl, rfl, 0, rfl⟩
   case round =>
     obtain ⟨k, hk, rfl, hal, q, rfl⟩ := hrel
     have HAl := Lib.hid hal
     clear hal
     by_cases hlt : k < n
     · obtain ⟨b, off, ⟨s, ⟨x, y, z⟩⟩, rfl, hblt, ha, c0, c1, c2, c3⟩ := HL.out.at_ (Below.refl _ _) hlt
       obtain ⟨b2, off2, ⟨s2, ⟨x2, y2, z2⟩⟩, rfl, hblt2, ha2, d0, d1, d2, d3⟩ := HM.out.at_ (Below.refl _ _) hlt
       have HA := Lib.hid ha
       have HA2 := Lib.hid ha2
       clear ha ha2
       by_cases he : (⟨s, ⟨x, y, z⟩⟩ : Wd) = ⟨s2, ⟨x2, y2, z2⟩⟩
       · obtain ⟨rfl, rfl, rfl, rfl⟩ : s = s2 ∧ x = x2 ∧ y = y2 ∧ z = z2 := by simpa using he
         have HE := Lib.hid (take_eq HAl.out HA.out HA2.out)
         clear he
         go_wp2
         go_quiet (fail)
         go_wp2
         go_roundw
         case rel => exact ⟨k + 1, by omega, by go_num, HE.out, q + nq, rfl⟩
         case measure => simp [intOf]; omega
       · have HE : Hid (decide (L = M) = false) := Lib.hid (decide_eq_false (ne_at he HA.out HA2.out))
         rcases word_part he with h | ⟨rfl, h⟩ | ⟨rfl, rfl, h⟩ | ⟨rfl, rfl, rfl, h⟩
         · have hs : (s.toList == s2.toList) = false := by rw [str_eq]; exact decide_eq_false h
           clear he h
           go_wp2
           go_quiet (fail)
           go_wp2
           go_ret
           exact ⟨ret_bool HE.out.symm, q + nq, World.drewN_drewN _ _ _⟩
         all_goals
           clear he
           go_wp2
           go_quiet (fail)
           go_wp2
           go_ret
           exact ⟨ret_bool HE.out.symm, q + nq, World.drewN_drewN _ _ _⟩
     · obtain rfl : k = n := by omega
       have HE : Hid (decide (L = M) = true) := Lib.hid (decide_eq_true (by
         have h := HAl.out
         rwa [List.take_of_length_le (by rw [HLn.out]; exact Nat.le_refl _), List.take_of_length_le (by rw [HMn.out]; exact Nat.le_refl _)] at h))
       go_wp2
       go_ret
       exact ⟨ret_bool HE.out.symm, q, rfl⟩
 · have HE : Hid (decide (L = M) = false) := Lib.hid (decide_eq_false (by
     rintro rfl
     exact hnm (HLn.out.symm.trans HMn.out)))
   have e0 : ((n : Int) == m) = false := by rw [beq_eq_false_iff_ne]; omega
   clear hnm
   go_enter Tryd.func49, Tryd.ntmps49
   go_wp2
   go_ret
   exact ⟨ret_bool HE.out.symm, 0, rfl⟩
end Go.Proofs.YtkjgmnmngbfhhaaDoor
