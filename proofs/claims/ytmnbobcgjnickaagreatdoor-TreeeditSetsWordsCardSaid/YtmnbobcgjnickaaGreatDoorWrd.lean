/-
  Words: the contracts of isWord, Word, May, allWords and Valid.
-/
import Derived.Test.YtmnbobcgjnickaaGreatDoorMem
namespace Go.Proofs.YtmnbobcgjnickaaGreatDoor
open Go.RowKit (wrap32 wrap64 intOf Hid Below)
open Lcs
def okB (b : UInt8) : Bool := decide (33 ≤ b.toNat ∧ b.toNat ≤ 126)
def wordB (s : Str) : Bool := decide (1 ≤ s.size ∧ s.size ≤ 24) && s.data.toList.all okB
def mayB (L : List Str) : Bool := decide (L.length ≤ 256) && L.all wordB
theorem word_size {s : Str} (h : ¬ (1 ≤ s.size ∧ s.size ≤ 24)) : wordB s = false := by
 unfold wordB
 rw [decide_eq_false h]
 rfl
theorem word_bad {s : Str} {k : Nat} (hk : k < s.size) (h : okB s[k] = false) : wordB s = false := by
 unfold wordB
 rw [Bool.and_eq_false_iff]
 right
 rw [List.all_eq_false]
 refine ⟨s[k], ?_, by rw [h]; decide⟩
 have : s[k] = s.data.toList[k]'(by simpa using hk) := rfl
 rw [this]
 exact List.getElem_mem _
theorem word_good {s : Str} (h0 : 1 ≤ s.size ∧ s.size ≤ 24) (h : ∀ c ∈ s.data.toList.take s.size, okB c = true) : wordB s = true := by
 unfold wordB
 rw [decide_eq_true h0, Bool.true_and, List.all_eq_true]
 rw [List.take_of_length_le (by simp)] at h
 exact h
theorem ok_yes {b : UInt8} (h1 : 33 ≤ (b.toNat : Int)) (h2 : (b.toNat : Int) ≤ 126) : okB b = true := by unfold okB; rw [decide_eq_true_eq]; omega
theorem ok_no {b : UInt8} (h : (b.toNat : Int) < 33 ∨ 126 < (b.toNat : Int)) : okB b = false := by unfold okB; rw [decide_eq_false_iff_not]; omega
theorem size_zero {s : Str} (h : s.size = 0) : s = ⟨#[]⟩ := by
 cases s with
 | mk a =>
   have : a.size = 0 := h
   rw [Array.size_eq_zero_iff] at this
   rw [this]
set_option maxHeartbeats 1000000 in
theorem isword_any (s : Str) (w : World) : Calls Tryz.prog 123 #[.string s] w fun e w' => e = .returned (.bool (wordB s)) ∧ w = w' := by
 by_cases h0 : s.size = 0
 · obtain rfl := size_zero h0
   have HW : Hid (wordB ⟨#[]⟩ = false) := Lib.hid (word_size (by decide))
   go_enter Tryz.func123, Tryz.ntmps123
   go_wp2
   go_ret
   exact ⟨ret_bool HW.out.symm, rfl⟩
 · have hE := str_eq s ⟨#[]⟩
   rw [decide_eq_false (by rintro rfl; exact h0 rfl)] at hE
   have hE2 : s.toList.isEmpty = false := by
     rw [ByteArray.toList_eq]
     cases h : s.data.toList with
     | nil => exact absurd (by have := congrArg List.length h; simpa using this) h0
     | cons x l => rfl
   by_cases h24 : s.size ≤ 24
   · have hs1 : 1 ≤ s.size := by omega
     have HS := Lib.hid (And.intro hs1 h24)
     clear h0
     go_enter Tryz.func123, Tryz.ntmps123
     go_wp2
     go_loop [13] (fun i => ∃ k : Nat, k ≤ s.size ∧ i = .int .i64 k ∧ ∀ c ∈ s.data.toList.take k, okB c = true) (fun i => s.size - (intOf i).toNat)
     case atStart => exact ⟨0, Nat.zero_le _, rfl, by intro c hc; simp at hc⟩
     case round =>
       obtain ⟨k, hk, rfl, hg⟩ := hrel
       have HG := Lib.hid hg
       clear hg
       by_cases hlt : k < s.size
       · by_cases c1 : (s[k].toNat : Int) < 33
         · have HB := Lib.hid (word_bad hlt (ok_no (Or.inl c1)))
           go_wp2
           go_ret
           exact ⟨ret_bool HB.out.symm, rfl⟩
         · by_cases c2 : 126 < (s[k].toNat : Int)
           · have HB := Lib.hid (word_bad hlt (ok_no (Or.inr c2)))
             go_wp2
             go_ret
             exact ⟨ret_bool HB.out.symm, rfl⟩
           · have HY := Lib.hid (ok_yes (b := s[k]) (by omega) (by omega))
             have HT := Lib.hid (take_snoc s k hlt)
             go_wp2
             go_round
             case rel => exact ⟨k + 1, by omega, by go_num, by
               rw [HT.out]
               intro c hc
               rcases List.mem_append.1 hc with h | h
               · exact HG.out c h
               · rw [List.mem_singleton.1 h]; exact HY.out⟩
             case measure => simp [intOf]; omega
       · obtain rfl : k = s.size := by omega
         have HY := Lib.hid (word_good HS.out HG.out)
         go_wp2
         go_ret
         exact ⟨ret_bool HY.out.symm, rfl⟩
   · have HW := Lib.hid (word_size (s := s) (by omega))
     have h24' : (24 : Int) < s.size := by omega
     go_enter Tryz.func123, Tryz.ntmps123
     go_wp2
     go_ret
     exact ⟨ret_bool HW.out.symm, rfl⟩
set_option maxHeartbeats 1000000 in
theorem refword_any (s : Str) (w : World) : Calls Tryz.prog 53 #[.string s] w fun e w' => e = .returned (.bool (wordB s)) ∧ w = w' := by
 by_cases h0 : s.size < 1
 · have HW := Lib.hid (word_size (s := s) (by omega))
   go_enter Tryz.func53, Tryz.ntmps53
   go_wp2
   go_ret
   exact ⟨ret_bool HW.out.symm, rfl⟩
 · by_cases h24 : s.size ≤ 24
   · have hs1 : 1 ≤ s.size := by omega
     have HS := Lib.hid (And.intro hs1 h24)
     clear h0
     go_enter Tryz.func53, Tryz.ntmps53
     go_wp2
     go_loop [3] (fun i => ∃ k : Nat, k ≤ s.size ∧ i = .int .i64 k ∧ ∀ c ∈ s.data.toList.take k, okB c = true) (fun i => s.size - (intOf i).toNat)
     case atStart => exact ⟨0, Nat.zero_le _, rfl, by intro c hc; simp at hc⟩
     case round =>
       obtain ⟨k, hk, rfl, hg⟩ := hrel
       have HG := Lib.hid hg
       clear hg
       by_cases hlt : k < s.size
       · by_cases c1 : (s[k].toNat : Int) < 33
         · have HB := Lib.hid (word_bad hlt (ok_no (Or.inl c1)))
           go_wp2
           go_ret
           exact ⟨ret_bool HB.out.symm, rfl⟩
         · by_cases c2 : 126 < (s[k].toNat : Int)
           · have HB := Lib.hid (word_bad hlt (ok_no (Or.inr c2)))
             go_wp2
             go_ret
             exact ⟨ret_bool HB.out.symm, rfl⟩
           · have HY := Lib.hid (ok_yes (b := s[k]) (by omega) (by omega))
             have HT := Lib.hid (take_snoc s k hlt)
             go_wp2
             go_round
             case rel => exact ⟨k + 1, by omega, by go_num, by
               rw [HT.out]
               intro c hc
               rcases List.mem_append.1 hc with h | h
               · exact HG.out c h
               · rw [List.mem_singleton.1 h]; exact HY.out⟩
             case measure => simp [intOf]; omega
       · obtain rfl : k = s.size := by omega
         have HY := Lib.hid (word_good HS.out HG.out)
         go_wp2
         go_ret
         exact ⟨ret_bool HY.out.symm, rfl⟩
   · have HW := Lib.hid (word_size (s := s) (by omega))
     have h24' : (24 : Int) < s.size := by omega
     go_enter Tryz.func53, Tryz.ntmps53
     go_wp2
     go_ret
     exact ⟨ret_bool HW.out.symm, rfl⟩
theorem all_bad {L : List Str} {k : Nat} (hk : k < L.length) (h : wordB (st L k) = false) : L.all wordB = false := by
 rw [List.all_eq_false]
 rw [st_eq hk] at h
 exact ⟨L[k], List.getElem_mem _, by rw [h]; decide⟩
theorem all_good {L : List Str} (h : ∀ j, j < L.length → wordB (st L j) = true) : L.all wordB = true := by
 rw [List.all_eq_true]
 intro s hs
 obtain ⟨j, hj, rfl⟩ := List.getElem_of_mem hs
 have := h j hj
 rwa [st_eq hj] at this
theorem may_many {L : List Str} (h : 256 < L.length) : mayB L = false := by
 unfold mayB
 rw [decide_eq_false (by omega)]
 rfl
theorem may_few {L : List Str} (h : L.length ≤ 256) : mayB L = L.all wordB := by
 unfold mayB
 rw [decide_eq_true h]
 rfl
set_option maxHeartbeats 1000000 in
theorem wmay_any (L : List Str) (n c : Nat) (A : Option Addr) (w : World) (hl : Sq w A n c L) :
   Calls Tryz.prog 124 #[.slice A n c] w fun e w' => e = .returned (.bool (mayB L)) ∧ w = w' := by
 have HL := Lib.hid hl
 have HLn := Lib.hid hl.len
 have hn := hl.1.2.2.2.1
 clear hl
 by_cases h256 : n ≤ 256
 · have HF := Lib.hid (may_few (L := L) (by rw [HLn.out]; exact h256))
   have HWd : Hid (∀ s W, Calls Tryz.prog 53 #[.string s] W fun e w' => e = .returned (.bool (wordB s)) ∧ W = w') := Lib.hid fun s W => refword_any s W
   go_enter Tryz.func124, Tryz.ntmps124
   go_wp2
   go_loop [3] (fun i => ∃ k : Nat, k ≤ n ∧ i = .int .i64 k ∧ ∀ j, j < k → wordB (st L j) = true) (fun i => n - (intOf i).toNat)
   case atStart => exact ⟨0, Nat.zero_le _, rfl, fun j hj => absurd hj (by omega)⟩
   case round =>
     obtain ⟨k, hk, rfl, hg⟩ := hrel
     have HG := Lib.hid hg
     clear hg
     by_cases hlt : k < n
     · obtain ⟨b, off, rfl, hB, hcell⟩ := HL.out.1.1.str (Below.refl _ _) hlt
       cases hw : wordB (st L k) with
       | false =>
         have HB := Lib.hid (all_bad (by rw [HLn.out]; exact hlt) hw)
         have HC := Lib.hid (HWd.out (st L k) w)
         rw [hw] at HC
         clear hw
         go_wp2_with (go_at_call 53; ((with_reducible refine (HC.out).mono ?_); rintro e w1 ⟨rfl, rfl⟩))
         go_ret
         exact ⟨ret_bool (by rw [HF.out, HB.out]), rfl⟩
       | true =>
         have HY := Lib.hid hw
         have HC := Lib.hid (HWd.out (st L k) w)
         rw [hw] at HC
         clear hw
         go_wp2_with (go_at_call 53; ((with_reducible refine (HC.out).mono ?_); rintro e w1 ⟨rfl, rfl⟩))
         go_round
         case rel => exact ⟨k + 1, by omega, by go_num, fun j hj => by
           by_cases h : j = k
           · subst h; exact HY.out
           · exact HG.out j (by omega)⟩
         case measure => simp [intOf]; omega
     · obtain rfl : k = n := by omega
       have HY := Lib.hid (all_good (L := L) (fun j hj => HG.out j (by rw [← HLn.out]; exact hj)))
       go_wp2
       go_ret
       exact ⟨ret_bool (by rw [HF.out, HY.out]), rfl⟩
 · have HF := Lib.hid (may_many (L := L) (by rw [HLn.out]; omega))
   go_enter Tryz.func124, Tryz.ntmps124
   go_wp2
   go_ret
   exact ⟨ret_bool (by rw [HF.out]), rfl⟩
theorem neg_any (s : Str) (w : World) : Calls Tryz.prog 122 #[.string s] w fun e w' => e = .returned (.bool (!wordB s)) ∧ w = w' := by
 have HW := Lib.hid (isword_any s w)
 go_enter Tryz.func122, Tryz.ntmps122
 go_wp2_with (go_at_call 123; ((with_reducible refine (HW.out).mono ?_); rintro e w1 ⟨rfl, rfl⟩))
 go_ret
 exact ⟨rfl, rfl⟩
def IdxRet (L : List Str) (e : Ending) : Prop := ∃ z : Int, e = .returned (.int .i64 z) ∧ (z < 0 ∧ L.all wordB = true ∨ 0 ≤ z ∧ L.all wordB = false)
set_option maxHeartbeats 1000000 in
theorem index_any (L : List Str) (n c : Nat) (A : Option Addr) (w : World) (hl : Sq w A n c L) :
   Calls Tryz.prog 128 #[.slice A n c, .func (.func 122) #[] #[]] w fun e w' => IdxRet L e ∧ w = w' := by
 have HL := Lib.hid hl
 have HLn := Lib.hid hl.len
 have hn := hl.1.2.2.2.1
 clear hl
 go_enter Tryz.func128, Tryz.ntmps128
 go_wp2
 go_loop [8] (fun i => ∃ k : Nat, k ≤ n ∧ i = .int .i64 k ∧ ∀ j, j < k → wordB (st L j) = true) (fun i => n - (intOf i).toNat)
 case atStart => exact ⟨0, Nat.zero_le _, rfl, fun j hj => absurd hj (by omega)⟩
 case round =>
   obtain ⟨k, hk, rfl, hg⟩ := hrel
   have HG := Lib.hid hg
   clear hg
   by_cases hlt : k < n
   · obtain ⟨b, off, rfl, hB, hcell⟩ := HL.out.1.1.str (Below.refl _ _) hlt
     have HC := Lib.hid (neg_any (st L k) w)
     cases hw : wordB (st L k) with
     | false =>
       have HB := Lib.hid (all_bad (by rw [HLn.out]; exact hlt) hw)
       rw [hw] at HC
       clear hw
       go_wp2_with (go_at_call 122; ((with_reducible refine (HC.out).mono ?_); rintro e w1 ⟨rfl, rfl⟩))
       go_ret
       exact ⟨⟨_, rfl, Or.inr ⟨by omega, HB.out⟩⟩, rfl⟩
     | true =>
       have HY := Lib.hid hw
       rw [hw] at HC
       clear hw
       go_wp2_with (go_at_call 122; ((with_reducible refine (HC.out).mono ?_); rintro e w1 ⟨rfl, rfl⟩))
       go_round
       case rel => exact ⟨k + 1, by omega, by go_num, fun j hj => by
         by_cases h : j = k
         · subst h; exact HY.out
         · exact HG.out j (by omega)⟩
       case measure => simp [intOf]; omega
   · obtain rfl : k = n := by omega
     have HY := Lib.hid (all_good (L := L) (fun j hj => HG.out j (by rw [← HLn.out]; exact hj)))
     go_wp2
     go_ret
     exact ⟨⟨_, rfl, Or.inl ⟨by omega, HY.out⟩⟩, rfl⟩
theorem contains_any (L : List Str) (n c : Nat) (A : Option Addr) (w : World) (hl : Sq w A n c L) :
   Calls Tryz.prog 121 #[.slice A n c, .func (.func 122) #[] #[]] w fun e w' => e = .returned (.bool (!L.all wordB)) ∧ w = w' := by
 have HI := Lib.hid (index_any L n c A w hl)
 clear hl
 go_enter Tryz.func121, Tryz.ntmps121
 go_wp2_with fail
 with_reducible refine (HI.out).mono ?_
 rintro e w1 ⟨⟨z, rfl, hz⟩, rfl⟩
 rcases hz with ⟨hz, ha⟩ | ⟨hz, ha⟩
 · have HA := Lib.hid ha
   clear ha
   go_wp2
   go_ret
   exact ⟨ret_bool (by rw [HA.out]; first | (simp; done) | (simp; omega)), rfl⟩
 · have HA := Lib.hid ha
   clear ha
   go_wp2
   go_ret
   exact ⟨ret_bool (by rw [HA.out]; first | (simp; done) | (simp; omega)), rfl⟩
theorem allwords_any (L : List Str) (n c : Nat) (A : Option Addr) (w : World) (hl : Sq w A n c L) :
   Calls Tryz.prog 116 #[.slice A n c] w fun e w' => e = .returned (.bool (L.all wordB)) ∧ w = w' := by
 have HI := Lib.hid (contains_any L n c A w hl)
 clear hl
 go_enter Tryz.func116, Tryz.ntmps116
 go_wp2_with (go_at_call 121; ((with_reducible refine (HI.out).mono ?_); rintro e w1 ⟨rfl, rfl⟩))
 go_ret
 exact ⟨by first | rfl | (apply ret_bool; simp), rfl⟩
theorem wvalid_any (L : List Str) (n c : Nat) (A : Option Addr) (w : World) (hl : Sq w A n c L) :
   Calls Tryz.prog 106 #[.slice A n c] w fun e w' => e = .returned (.bool (mayB L)) ∧ w = w' := by
 have HI := Lib.hid (allwords_any L n c A w hl)
 have HLn := Lib.hid hl.len
 have hn := hl.1.2.2.2.1
 clear hl
 by_cases h256 : n ≤ 256
 · have HF := Lib.hid (may_few (L := L) (by rw [HLn.out]; exact h256))
   go_enter Tryz.func106, Tryz.ntmps106
   go_wp2_with (go_at_call 116; ((with_reducible refine (HI.out).mono ?_); rintro e w1 ⟨rfl, rfl⟩))
   go_ret
   exact ⟨by first | exact ret_bool HF.out.symm | (apply ret_bool; rw [HF.out]; simp), rfl⟩
 · have HF := Lib.hid (may_many (L := L) (by rw [HLn.out]; omega))
   go_enter Tryz.func106, Tryz.ntmps106
   go_wp2_with (go_at_call 116; ((with_reducible refine (HI.out).mono ?_); rintro e w1 ⟨rfl, rfl⟩))
   go_ret
   exact ⟨by first | exact ret_bool HF.out.symm | (apply ret_bool; rw [HF.out]; simp), rfl⟩
end Go.Proofs.YtmnbobcgjnickaaGreatDoor
