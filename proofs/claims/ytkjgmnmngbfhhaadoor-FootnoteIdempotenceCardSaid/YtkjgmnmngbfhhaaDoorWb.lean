/-
  The contracts of the reference's Split, of parseNumber, Split and Valid.
-/
import Derived.Test.YtkjgmnmngbfhhaaDoorWa
namespace Go.Proofs.YtkjgmnmngbfhhaaDoor
open Go.RowKit (wrap32 wrap64 intOf Hid Below)
open Lab
theorem ext_drop (s : ByteArray) (k : Nat) : (s.extract k s.size).data.toList = s.data.toList.drop k := by
 rw [Lib.extract_data, List.take_of_length_le (by rw [List.length_drop, size_list]; omega)]
theorem ext_take (s : ByteArray) (k : Nat) : (s.extract 0 k).data.toList = s.data.toList.take k := by
 rw [Lib.extract_data]; simp
def spV (l : Bs) : Value := .tuple #[.int .i64 ((splitL l).1 : Nat), .string (mk (splitL l).2)]
def pnV (l : Bs) : Value := if parseP l then .tuple #[.int .i64 (val l : Nat), .bool true] else .tuple #[.int .i64 0, .bool false]
theorem pn_no {l : Bs} (h : l = [] ∨ 4 < l.length ∨ l.head? = some 48 ∨ ∃ k, k < l.length ∧ isDig (l.getD k 0) = false) : pnV l = .tuple #[.int .i64 0, .bool false] := by
 have hp : parseP l = false := by
   unfold parseP
   rw [decide_eq_false_iff_not]
   rintro ⟨h1, h2, h3, h4⟩
   rcases h with h | h | h | ⟨k, hk, h⟩
   · exact h1 h
   · omega
   · exact h3 h
   · rw [h4 _ (getD_mem hk)] at h; cases h
 unfold pnV
 rw [hp]; rfl
set_option maxHeartbeats 2000000 in
theorem parse_any (s : ByteArray) (w : World) (hs : s.size ≤ 1000000) :
   Calls Tryd.prog 63 #[.string s] w fun e w' => e = .returned (pnV s.data.toList) ∧ w = w' := by
 have HSz := Lib.hid (size_list s)
 have HNo := Lib.hid (pn_no (l := s.data.toList))
 by_cases h0 : s.size = 0
 · have hnil : s.toList = [] := by
     rw [ByteArray.toList_eq]
     exact List.eq_nil_of_length_eq_zero (by rw [size_list]; exact h0)
   have hnil2 : s.toList.isEmpty = true := by rw [hnil]; rfl
   have HP := Lib.hid (HNo.out (Or.inl (List.eq_nil_of_length_eq_zero (by rw [HSz.out]; exact h0))))
   clear h0
   go_enter Tryd.func63, Tryd.ntmps63
   go_wp2
   go_ret2
   exact ⟨by rw [HP.out]; rfl, rfl⟩
 · have hne : s.toList.isEmpty = false := by
     rw [ByteArray.toList_eq]
     cases hd : s.data.toList with
     | nil => exact absurd (by rw [← size_list, hd]; rfl) h0
     | cons x r => rfl
   have hpos : 0 < s.size := by omega
   by_cases h4 : 4 < s.size
   · have HP := Lib.hid (HNo.out (Or.inr (Or.inl (by rw [HSz.out]; exact h4))))
     go_enter Tryd.func63, Tryd.ntmps63
     go_wp2
     go_ret2
     exact ⟨by rw [HP.out]; rfl, rfl⟩
   · have HH := Lib.hid (head_at s hpos)
     by_cases c3 : s[0] = 48
     · have HP := Lib.hid (HNo.out (Or.inr (Or.inr (Or.inl (by rw [HH.out, c3])))))
       have e3 : ((s[0].toNat : Int) == 48) = true := by rw [c3]; decide
       clear c3
       go_enter Tryd.func63, Tryd.ntmps63
       go_wp2
       go_ret2
       exact ⟨by rw [HP.out]; rfl, rfl⟩
     · have e3 : ((s[0].toNat : Int) == 48) = false := by
         rw [beq_eq_false_iff_ne]
         intro hh
         apply c3
         apply UInt8.toNat_inj.1
         have : (48 : UInt8).toNat = 48 := rfl
         omega
       have H3 : Hid (s.data.toList.head? ≠ some 48) := Lib.hid (by rw [HH.out]; intro hh; exact c3 (Option.some.inj hh))
       clear c3
       go_enter Tryd.func63, Tryd.ntmps63
       go_wp2
       go_loop [4, 20] (fun v i => ∃ k : Nat, k ≤ s.size ∧ i = .int .i64 k ∧ v = .int .i64 (val (s.data.toList.take k) : Nat) ∧ ∀ c ∈ s.data.toList.take k, isDig c = true) (fun _ i => s.size - (intOf i).toNat)
       case atStart => exact ⟨0, Nat.zero_le _, rfl, rfl, by intro c hc; simp at hc⟩
       case round =>
         obtain ⟨k, hk, rfl, rfl, had⟩ := hrel
         have hv := val_lt4 (s.data.toList.take k) had (by rw [List.length_take]; omega)
         have HD := Lib.hid had
         clear had
         by_cases hlt : k < s.size
         · have HG := Lib.hid (getD_at s k hlt)
           by_cases c1 : 48 ≤ (s[k].toNat : Int)
           · by_cases c2 : (s[k].toNat : Int) ≤ 57
             · have HT := Lib.hid (take_snoc s k hlt)
               have HV := Lib.hid (val_snoc (s.data.toList.take k) s[k])
               have HGG : Hid (isDig s[k] = true) := Lib.hid (by unfold isDig; rw [decide_eq_true_eq]; omega)
               go_wp2
               go_round
               case rel => exact ⟨k + 1, by omega, by go_num, by rw [HT.out, HV.out]; congr 1; push_cast; omega, by
                 rw [HT.out]
                 intro c hc
                 rcases List.mem_append.1 hc with h | h
                 · exact HD.out c h
                 · rw [List.mem_singleton.1 h]; exact HGG.out⟩
               case measure => simp [intOf]; omega
             · have HP := Lib.hid (HNo.out (Or.inr (Or.inr (Or.inr ⟨k, by rw [HSz.out]; exact hlt, by rw [HG.out]; unfold isDig; rw [decide_eq_false_iff_not]; omega⟩))))
               go_wp2
               go_ret2
               exact ⟨by rw [HP.out]; rfl, rfl⟩
           · have HP := Lib.hid (HNo.out (Or.inr (Or.inr (Or.inr ⟨k, by rw [HSz.out]; exact hlt, by rw [HG.out]; unfold isDig; rw [decide_eq_false_iff_not]; omega⟩))))
             go_wp2
             go_ret2
             exact ⟨by rw [HP.out]; rfl, rfl⟩
         · obtain rfl : k = s.size := by omega
           have HP : Hid (pnV s.data.toList = .tuple #[.int .i64 (val (s.data.toList.take s.size) : Nat), .bool true]) := Lib.hid (by
             have ht : s.data.toList.take s.size = s.data.toList := List.take_of_length_le (by rw [HSz.out]; omega)
             have hd := HD.out
             rw [ht] at hd
             have hp : parseP s.data.toList = true := by
               unfold parseP
               rw [decide_eq_true_eq]
               refine ⟨?_, by rw [HSz.out]; omega, H3.out, hd⟩
               intro hh
               have := HSz.out
               rw [hh] at this
               simp at this
               omega
             unfold pnV
             rw [hp, ht]; rfl)
           go_wp2
           go_ret2
           exact ⟨by rw [HP.out]; rfl, rfl⟩
end Go.Proofs.YtkjgmnmngbfhhaaDoor
