/-
  The contracts of Split and Valid.
-/
import Derived.Lib.LaidTab
import Derived.Lib.SmallJoins
import Derived.Test.YtkjgmnmngbfhhaaDoorWb
namespace Go.Proofs.YtkjgmnmngbfhhaaDoor
open Go.RowKit (wrap32 wrap64 intOf Hid Below)
open Lab
def Tab (w : World) : Prop := True ∧ Lib.Utf8Tabs 0 1 w
theorem Tab.below {w w' : World} (h : Tab w) (hb : Below w.heap.size w w') : Tab w' :=
 ⟨trivial, Utf8Tabs_below h.2 hb⟩
theorem cap_pays (w : World) : PredAt Tryd.prog 62 #[] encR capR w := fun W r _ => by
 unfold FnGives
 by_cases h1 : (65 : Int) ≤ (r : Int)
 · by_cases h2 : (r : Int) ≤ 90
   · have hp : capR r = true := by unfold capR; rw [decide_eq_true_eq]; omega
     rw [hp]
     clear hp
     go_enter Tryd.func62, Tryd.ntmps62
     go_wp2
     go_ret
     exact ⟨rfl, 0, rfl⟩
   · have hp : capR r = false := by unfold capR; rw [decide_eq_false_iff_not]; omega
     rw [hp]
     clear hp
     go_enter Tryd.func62, Tryd.ntmps62
     go_wp2
     go_ret
     exact ⟨rfl, 0, rfl⟩
 · have hp : capR r = false := by unfold capR; rw [decide_eq_false_iff_not]; omega
   rw [hp]
   clear hp
   go_enter Tryd.func62, Tryd.ntmps62
   go_wp2
   go_ret
   exact ⟨rfl, 0, rfl⟩
set_option maxHeartbeats 1000000 in
theorem split_any (s : ByteArray) (w : World) (hT : Tab w) (hs : s.size ≤ 1000000) :
   Calls Tryd.prog 53 #[.string s] w fun e w' => e = .returned (spV s.data.toList) ∧ Below w.heap.size w w' := by
 obtain ⟨e, he, hcut⟩ := trim_cut s
 have hel : e ≤ s.size := by rw [← size_list]; exact hcut.1
 obtain ⟨D, hD⟩ : ∃ D, D = s.extract 0 e := ⟨_, rfl⟩
 have hDl : D.data.toList = s.data.toList.take e := by rw [hD]; exact ext_take s e
 have hDs : D.size = e := by rw [← size_list, hDl, List.length_take, size_list]; omega
 subst hDs
 rw [← hD] at he
 have HTr : Hid (Calls Tryd.prog 61 #[.string s, .func (.func 62) #[] #[]] w fun e w' => e = .returned (.string D) ∧ Below w.heap.size w w') := Lib.hid (by
   rw [← he]
   exact Tryd.strings_TrimRightFunc 62 #[] (Go.Proofs.enters_of Tryd.func62 (by kernel_rfl) rfl) capR s w (by omega) hT.2 (cap_pays w))
 have HPn : Hid (∀ W, Calls Tryd.prog 63 #[.string D] W fun e w' => e = .returned (pnV (s.data.toList.take D.size)) ∧ W = w') := Lib.hid fun W => by
   rw [← hDl]
   exact parse_any D W (by omega)
 have HSz := Lib.hid (size_list s)
 clear hT hD hDl he
 cases hp : parseP (s.data.toList.take D.size) with
 | false =>
   have HS : Hid (spV s.data.toList = .tuple #[.int .i64 0, .string ⟨#[]⟩]) := Lib.hid (by unfold spV; rw [split_cut hcut (Or.inl hp)]; rfl)
   have HV : Hid (pnV (s.data.toList.take D.size) = .tuple #[.int .i64 0, .bool false]) := Lib.hid (by unfold pnV; rw [hp]; rfl)
   rw [HV.out] at HPn
   clear hcut hp
   go_enter Tryd.func53, Tryd.ntmps53
   go_wp2_with (first
     | (go_at_call 61; ((with_reducible refine (HTr.out).mono ?_); rintro e w1 ⟨rfl, hb1⟩))
     | (go_at_call 63; ((with_reducible refine (HPn.out _).mono ?_); rintro e w2 ⟨rfl, rfl⟩)))
   go_ret2
   exact ⟨by rw [HS.out]; rfl, hb1⟩
 | true =>
   have HV : Hid (pnV (s.data.toList.take D.size) = .tuple #[.int .i64 (val (s.data.toList.take D.size) : Nat), .bool true]) := Lib.hid (by unfold pnV; rw [hp]; rfl)
   rw [HV.out] at HPn
   by_cases h3 : 3 < s.size - D.size
   · have HS : Hid (spV s.data.toList = .tuple #[.int .i64 0, .string ⟨#[]⟩]) := Lib.hid (by unfold spV; rw [split_cut hcut (Or.inr (by rw [HSz.out]; exact h3))]; rfl)
     clear hcut hp
     go_enter Tryd.func53, Tryd.ntmps53
     go_wp2_with (first
       | (go_at_call 61; ((with_reducible refine (HTr.out).mono ?_); rintro e w1 ⟨rfl, hb1⟩))
       | (go_at_call 63; ((with_reducible refine (HPn.out _).mono ?_); rintro e w2 ⟨rfl, rfl⟩)))
     go_ret2
     exact ⟨by rw [HS.out]; rfl, hb1⟩
   · have HS : Hid (spV s.data.toList = .tuple #[.int .i64 (val (s.data.toList.take D.size) : Nat), .string (s.extract D.size s.size)]) := Lib.hid (by
       unfold spV
       rw [split_yes hcut hp (by rw [HSz.out]; omega)]
       rw [← eq_mk (ext_drop s D.size)])
     clear hcut hp
     go_enter Tryd.func53, Tryd.ntmps53
     go_wp2_with (first
       | (go_at_call 61; ((with_reducible refine (HTr.out).mono ?_); rintro e w1 ⟨rfl, hb1⟩))
       | (go_at_call 63; ((with_reducible refine (HPn.out _).mono ?_); rintro e w2 ⟨rfl, rfl⟩)))
     go_ret2
     exact ⟨by rw [HS.out]; rfl, hb1⟩
theorem valid_any (s : ByteArray) (w : World) (hT : Tab w) (hs : s.size ≤ 1000000) :
   Calls Tryd.prog 36 #[.string s] w fun e w' => e = .returned (.bool (mayL s.data.toList)) ∧ Below w.heap.size w w' := by
 have HS := Lib.hid (split_any s w hT hs)
 have hz := split_zero s.data.toList
 unfold spV at HS
 obtain ⟨n, hn⟩ : ∃ n, n = (splitL s.data.toList).1 := ⟨_, rfl⟩
 obtain ⟨c, hc⟩ : ∃ c, c = mk (splitL s.data.toList).2 := ⟨_, rfl⟩
 rw [← hn, ← hc] at HS
 rw [← hn] at hz
 cases hm : mayL s.data.toList with
 | false =>
   obtain rfl : n = 0 := hz.2 hm
   clear hz hn hc hm hT
   go_enter Tryd.func36, Tryd.ntmps36
   go_wp2_with (go_at_call 53; ((with_reducible refine (HS.out).mono ?_); rintro e w1 ⟨rfl, hb1⟩))
   go_ret
   exact ⟨rfl, hb1⟩
 | true =>
   have h0 : 0 < n := by
     rcases Nat.eq_zero_or_pos n with h | h
     · rw [hz.1 h] at hm; cases hm
     · exact h
   clear hz hn hc hm hT
   go_enter Tryd.func36, Tryd.ntmps36
   go_wp2_with (go_at_call 53; ((with_reducible refine (HS.out).mono ?_); rintro e w1 ⟨rfl, hb1⟩))
   go_ret
   exact ⟨ret_bool (by first | rfl | (rw [decide_eq_true_eq]; omega)), hb1⟩
end Go.Proofs.YtkjgmnmngbfhhaaDoor
