/-
  The contracts of the reference's digits, May and Split.
-/
import Derived.Handy
import Derived.WalkMore
import Derived.Lib.Hide
import Derived.WalkLawsBesides
import Derived.WalkSpells
import Derived.Deep.QuietTactic
import Derived.BigQuiet
import Derived.Deep.Draws
import Derived.StillTailTactics
import Derived.Test.YtkjgmnmngbfhhaaDoorLab
import Derived.Test.YtkjgmnmngbfhhaaDoorShelf
namespace Go.Proofs.YtkjgmnmngbfhhaaDoor
open Go.RowKit (wrap32 wrap64 intOf Hid Below)
open Lab
theorem ret_bool {a b : Bool} (h : a = b) : Ending.returned (.bool a) = .returned (.bool b) := by rw [h]
theorem ret_int {k : IntKind} {a b : Int} (h : a = b) : Ending.returned (.int k a) = .returned (.int k b) := by rw [h]
def mk (l : Bs) : ByteArray := ⟨l.toArray⟩
theorem eq_mk {a : ByteArray} {l : Bs} (h : a.data.toList = l) : a = mk l := by
 subst h
 cases a
 rfl
theorem size_list (a : ByteArray) : a.data.toList.length = a.size := by simp
theorem below_drawn {B : Nat} {a w : World} (h : Below B a w) (n : Nat) : Below B a (w.drewN n) := ⟨h.os, h.tape, h.output, h.size, h.block⟩
theorem take_snoc (s : ByteArray) (k : Nat) (h : k < s.size) : s.data.toList.take (k + 1) = s.data.toList.take k ++ [s[k]] := by
 rw [List.take_succ_eq_append_getElem (by simpa using h)]; rfl
theorem getD_at (s : ByteArray) (k : Nat) (h : k < s.size) : s.data.toList.getD k 0 = s[k] := by
 rw [List.getD, List.getElem?_eq_getElem (by simpa using h)]; rfl
theorem tw_len : ∀ (l : Bs) (k : Nat), k ≤ l.length → (∀ c ∈ l.take k, isDig c = true) → (k = l.length ∨ isDig (l.getD k 0) = false) → (l.takeWhile isDig).length = k
 | [], k, hk, _, _ => by simp at hk; simp [hk]
 | x :: l, 0, _, _, hx => by
   have : isDig x = false := by
     rcases hx with hx | hx
     · simp at hx
     · simpa using hx
   rw [List.takeWhile_cons, this]; rfl
 | x :: l, k + 1, hk, hd, hx => by
   have h1 := hd x (by simp)
   rw [List.takeWhile_cons, h1, if_pos rfl, List.length_cons, tw_len l k (by simpa using hk) (fun c hc => hd c (by simp [hc])) (by
     rcases hx with hx | hx
     · left; simpa using hx
     · right; simpa using hx)]
theorem dw_drop : ∀ (l : Bs), l.dropWhile isDig = l.drop (l.takeWhile isDig).length
 | [] => rfl
 | x :: l => by
   rw [List.dropWhile_cons, List.takeWhile_cons]
   split
   · rw [List.length_cons, List.drop_succ_cons, dw_drop l]
   · rfl
theorem tw_le (l : Bs) : (l.takeWhile isDig).length ≤ l.length := by
 have h := congrArg List.length (List.takeWhile_append_dropWhile (p := isDig) (l := l))
 rw [List.length_append] at h
 omega
set_option maxHeartbeats 1000000 in
theorem digits_any (s : ByteArray) (w : World) (hs : s.size ≤ 1000000) :
   Calls Tryd.prog 54 #[.string s] w fun e w' => e = .returned (.int .i64 ((s.data.toList.takeWhile isDig).length : Nat)) ∧ w = w' := by
 go_enter Tryd.func54, Tryd.ntmps54
 go_wp2
 go_loop [3] (fun i => ∃ k : Nat, k ≤ s.size ∧ i = .int .i64 k ∧ ∀ c ∈ s.data.toList.take k, isDig c = true) (fun i => s.size - (intOf i).toNat)
 case atStart => exact ⟨0, Nat.zero_le _, rfl, by intro c hc; simp at hc⟩
 case round =>
   obtain ⟨k, hk, rfl, had⟩ := hrel
   have HD := Lib.hid had
   clear had
   have fin : (k = s.size ∨ isDig (s.data.toList.getD k 0) = false) → (k : Int) = (((s.data.toList.takeWhile isDig).length : Nat) : Int) := fun h => by
     rw [tw_len s.data.toList k (by rw [size_list]; exact hk) HD.out (by rw [size_list]; exact h)]
   have HF := Lib.hid fin
   clear fin
   by_cases hlt : k < s.size
   · have HG := Lib.hid (getD_at s k hlt)
     by_cases c1 : 48 ≤ (s[k].toNat : Int)
     · by_cases c2 : (s[k].toNat : Int) ≤ 57
       · have HT := Lib.hid (take_snoc s k hlt)
         have HGG : Hid (isDig s[k] = true) := Lib.hid (by unfold isDig; rw [decide_eq_true_eq]; omega)
         go_wp2
         go_round
         case rel => exact ⟨k + 1, by omega, by go_num, by
           rw [HT.out]
           intro c hc
           rcases List.mem_append.1 hc with h | h
           · exact HD.out c h
           · rw [List.mem_singleton.1 h]; exact HGG.out⟩
         case measure => simp [intOf]; omega
       · have HE := Lib.hid (HF.out (Or.inr (by rw [HG.out]; unfold isDig; rw [decide_eq_false_iff_not]; omega)))
         go_wp2
         go_ret
         exact ⟨ret_int HE.out, rfl⟩
     · have HE := Lib.hid (HF.out (Or.inr (by rw [HG.out]; unfold isDig; rw [decide_eq_false_iff_not]; omega)))
       go_wp2
       go_ret
       exact ⟨ret_int HE.out, rfl⟩
   · have HE := Lib.hid (HF.out (Or.inl (by omega)))
     go_wp2
     go_ret
     exact ⟨ret_int HE.out, rfl⟩
theorem may_not {l : Bs} {n : Nat} (hn : n = (l.takeWhile isDig).length) (h : n < 1 ∨ 4 < n ∨ l.head? = some 48 ∨ 3 < l.length - n ∨ ∃ k, n ≤ k ∧ k < l.length ∧ isCap (l.getD k 0) = false) : mayL l = false := by
 subst hn
 unfold mayL
 rw [decide_eq_false_iff_not]
 rintro ⟨h1, h2, h3, h4, h5⟩
 rw [dw_drop, List.length_drop] at h4
 rcases h with h | h | h | h | ⟨k, hk1, hk2, h⟩
 · omega
 · omega
 · exact h3 h
 · omega
 · have hm : l.getD k 0 ∈ l.dropWhile isDig := by
     rw [dw_drop, List.getD, List.getElem?_eq_getElem hk2]
     show l[k] ∈ _
     have e : l[k] = (l.drop (l.takeWhile isDig).length)[k - (l.takeWhile isDig).length]'(by rw [List.length_drop]; omega) := by
       rw [List.getElem_drop]
       congr 1
       omega
     rw [e]
     exact List.getElem_mem _
   rw [h5 _ hm] at h
   cases h
theorem may_yes {l : Bs} {n : Nat} (hn : n = (l.takeWhile isDig).length) (h1 : 1 ≤ n) (h2 : n ≤ 4) (h3 : l.head? ≠ some 48) (h4 : l.length - n ≤ 3) (h5 : ∀ k, n ≤ k → k < l.length → isCap (l.getD k 0) = true) : mayL l = true := by
 subst hn
 unfold mayL
 rw [decide_eq_true_eq, dw_drop, List.length_drop]
 refine ⟨h1, h2, h3, h4, fun b hb => ?_⟩
 obtain ⟨i, hi, rfl⟩ := List.getElem_of_mem hb
 rw [List.length_drop] at hi
 have := h5 ((l.takeWhile isDig).length + i) (by omega) (by omega)
 rw [List.getD, List.getElem?_eq_getElem (by omega)] at this
 rw [List.getElem_drop]
 exact this
theorem head_at (s : ByteArray) (h : 0 < s.size) : s.data.toList.head? = some s[0] := by
 have h1 : 0 < s.data.toList.length := by rw [size_list]; exact h
 rw [List.head?_eq_getElem?, List.getElem?_eq_getElem h1]
 rfl
set_option maxHeartbeats 2000000 in
theorem may_any (s : ByteArray) (w : World) (hs : s.size ≤ 1000000) :
   Calls Tryd.prog 37 #[.string s] w fun e w' => e = .returned (.bool (mayL s.data.toList)) ∧ w = w' := by
 have HDg := Lib.hid (digits_any s w hs)
 obtain ⟨n, hn⟩ : ∃ n, n = (s.data.toList.takeWhile isDig).length := ⟨_, rfl⟩
 have hle : n ≤ s.size := by rw [hn, ← size_list]; exact tw_le _
 have HN := Lib.hid (fun h => may_not hn h)
 have HY := Lib.hid (fun h1 h2 h3 h4 h5 => may_yes hn h1 h2 h3 h4 h5)
 rw [← hn] at HDg
 clear hn
 have HSz := Lib.hid (size_list s)
 by_cases c1 : n < 1
 · have HM := Lib.hid (HN.out (Or.inl c1))
   go_enter Tryd.func37, Tryd.ntmps37
   go_wp2_with (go_at_call 54; ((with_reducible refine (HDg.out).mono ?_); rintro e w' ⟨rfl, rfl⟩))
   go_ret
   exact ⟨ret_bool HM.out.symm, rfl⟩
 · by_cases c2 : 4 < n
   · have HM := Lib.hid (HN.out (Or.inr (Or.inl c2)))
     go_enter Tryd.func37, Tryd.ntmps37
     go_wp2_with (go_at_call 54; ((with_reducible refine (HDg.out).mono ?_); rintro e w' ⟨rfl, rfl⟩))
     go_ret
     exact ⟨ret_bool HM.out.symm, rfl⟩
   · have h0 : 0 < s.size := by omega
     have HH := Lib.hid (head_at s h0)
     by_cases c3 : s[0] = 48
     · have HM := Lib.hid (HN.out (Or.inr (Or.inr (Or.inl (by rw [HH.out, c3])))))
       have e3 : ((s[0].toNat : Int) == 48) = true := by rw [c3]; decide
       clear c3
       go_enter Tryd.func37, Tryd.ntmps37
       go_wp2_with (go_at_call 54; ((with_reducible refine (HDg.out).mono ?_); rintro e w' ⟨rfl, rfl⟩))
       go_ret
       exact ⟨ret_bool HM.out.symm, rfl⟩
     · have e3 : ((s[0].toNat : Int) == 48) = false := by
         rw [beq_eq_false_iff_ne]
         intro hh
         apply c3
         apply UInt8.toNat_inj.1
         have : (48 : UInt8).toNat = 48 := rfl
         omega
       have H3 : Hid (s.data.toList.head? ≠ some 48) := Lib.hid (by rw [HH.out]; intro hh; exact c3 (Option.some.inj hh))
       clear c3
       by_cases c4 : 3 < s.size - n
       · have HM := Lib.hid (HN.out (Or.inr (Or.inr (Or.inr (Or.inl (by rw [HSz.out]; exact c4))))))
         go_enter Tryd.func37, Tryd.ntmps37
         go_wp2_with (go_at_call 54; ((with_reducible refine (HDg.out).mono ?_); rintro e w' ⟨rfl, rfl⟩))
         go_ret
         exact ⟨ret_bool HM.out.symm, rfl⟩
       · go_enter Tryd.func37, Tryd.ntmps37
         go_wp2_with (go_at_call 54; ((with_reducible refine (HDg.out).mono ?_); rintro e w' ⟨rfl, rfl⟩))
         go_loop [4] (fun i => ∃ k : Nat, n ≤ k ∧ k ≤ s.size ∧ i = .int .i64 k ∧ ∀ j, n ≤ j → j < k → isCap (s.data.toList.getD j 0) = true) (fun i => s.size - (intOf i).toNat)
         case atStart => exact ⟨n, Nat.le_refl _, hle, rfl, fun j h1 h2 => absurd h1 (by omega)⟩
         case round =>
           obtain ⟨k, hk1, hk2, rfl, hcap⟩ := hrel
           have HC := Lib.hid hcap
           clear hcap
           by_cases hlt : k < s.size
           · have HG := Lib.hid (getD_at s k hlt)
             by_cases x1 : (s[k].toNat : Int) < 65
             · have HM := Lib.hid (HN.out (Or.inr (Or.inr (Or.inr (Or.inr ⟨k, hk1, by rw [HSz.out]; exact hlt, by rw [HG.out]; unfold isCap; rw [decide_eq_false_iff_not]; omega⟩)))))
               go_wp2
               go_ret
               exact ⟨ret_bool HM.out.symm, rfl⟩
             · by_cases x2 : 90 < (s[k].toNat : Int)
               · have HM := Lib.hid (HN.out (Or.inr (Or.inr (Or.inr (Or.inr ⟨k, hk1, by rw [HSz.out]; exact hlt, by rw [HG.out]; unfold isCap; rw [decide_eq_false_iff_not]; omega⟩)))))
                 go_wp2
                 go_ret
                 exact ⟨ret_bool HM.out.symm, rfl⟩
               · have HGG : Hid (isCap s[k] = true) := Lib.hid (by unfold isCap; rw [decide_eq_true_eq]; omega)
                 go_wp2
                 go_round
                 case rel => exact ⟨k + 1, by omega, by omega, by go_num, fun j h1 h2 => by
                   by_cases e : j = k
                   · rw [e, HG.out]; exact HGG.out
                   · exact HC.out j h1 (by omega)⟩
                 case measure => simp [intOf]; omega
           · have HM := Lib.hid (HY.out (by omega) (by omega) H3.out (by rw [HSz.out]; omega) (fun j h1 h2 => HC.out j h1 (by have := HSz.out; omega)))
             go_wp2
             go_ret
             exact ⟨ret_bool HM.out.symm, rfl⟩
end Go.Proofs.YtkjgmnmngbfhhaaDoor
