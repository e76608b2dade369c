/-
  The walk of the law DatesetSplits.
-/
import Derived.Test.YtkiafejjcchofaaDoorRefD
namespace Go.Proofs.YtkiafejjcchofaaDoor
open Go.RowKit (wrap32 wrap64 intOf Hid Below)
open Spans

theorem sepB_of {L : List Sp} {P : Int → Bool} (h : Is L P) : sepB (-1) L = true := (sepB_iff L (-1)).2 h.1
theorem validK_c (P : Int → Bool) (N ca : Nat) (Aa : Option Addr) (w : World) (hP : Is (canon P) P) (hl : (canon P).length ≤ 4096) (hza : SpansAt w.heap.size w Aa N (canon P)) (hN : N ≤ 2000000) :
    Calls Tryd.prog 11 #[.slice Aa N ca] w fun e w' => e = .returned (.bool true) ∧ Below w.heap.size w w' := by
  have h := valid_any (canon P) N ca Aa w hza (by unfold maxLen; omega)
  have e : validB (canon P) = true := by unfold validB; rw [sepB_of hP, decide_eq_true hl]; rfl
  rw [e] at h
  exact h
theorem len_le {B : Nat} {w : World} {A : Option Addr} {n m : Nat} {L : List Sp} (h : SpansAt B w A n L) (hn : n ≤ m) (hm : m ≤ 4096) : L.length ≤ 4096 := by
  have := h.1
  omega
theorem containsV_c (La : List Sp) (N ca : Nat) (Aa : Option Addr) (d : Int) (w : World) (v : Bool) (hv : conB La d = v) (hza : SpansAt w.heap.size w Aa N La) (hN : N ≤ 2000000) :
    Calls Tryd.prog 16 #[.slice Aa N ca, .int .i64 d] w fun e w' => e = .returned (.bool v) ∧ Below w.heap.size w w' := by
  subst hv
  exact contains_c La N ca Aa d w hza hN
theorem conK {P : Int → Bool} (h : Is (canon P) P) (d : Int) : conB (canon P) d = (decide (0 ≤ d ∧ d ≤ 1048576) && P d) := by
  unfold conB
  by_cases hd : 0 ≤ d ∧ d ≤ 1048576
  · rw [h.val d hd.1 hd.2]
  · rw [decide_eq_false hd, Bool.false_and, Bool.false_and]
theorem valT {La : List Sp} {t : Int} (h : Is (canon fun d => memB La d && memB [(0, t)] d) (fun d => memB La d && memB [(0, t)] d)) (d : Int) : conB (canon fun d => memB La d && memB [(0, t)] d) d = (conB La d && decide (d < t)) := by
  rw [conK h]
  unfold conB
  by_cases hd : 0 ≤ d ∧ d ≤ 1048576
  · rw [until_val d t hd.1, Bool.and_assoc]
  · rw [decide_eq_false hd, Bool.false_and, Bool.false_and, Bool.false_and]
theorem valX {La : List Sp} {t : Int} (h : Is (canon fun d => memB La d || memB [(t, 1048577)] d) (fun d => memB La d || memB [(t, 1048577)] d)) (d : Int) : conB (canon fun d => memB La d || memB [(t, 1048577)] d) d = (decide (0 ≤ d ∧ d ≤ 1048576) && (decide (t ≤ d) || conB La d)) := by
  rw [conK h]
  by_cases hd : 0 ≤ d ∧ d ≤ 1048576
  · have e : conB La d = memB La d := con_mem La d hd.1 hd.2
    have e2 : (!decide (d < t)) = decide (t ≤ d) := by rw [Bool.eq_iff_iff]; simp
    rw [since_val d t hd.2, e, e2, Bool.or_comm]
  · rw [decide_eq_false hd, Bool.false_and, Bool.false_and]

set_option maxHeartbeats 8000000 in
set_option maxRecDepth 1000000 in
theorem lawSplits (La : List Sp) (Aa : Option Addr) (N ca : Nat) (day other : Int) (w : World) (ht : Tab w)
    (za : SpansAt w.heap.size w Aa N La) (ka : N ≤ 8796093022207) (xa : Aa = none → ca = 0) (_ : -9223372036854775808 ≤ day ∧ day ≤ 9223372036854775807) (_ : -9223372036854775808 ≤ other ∧ other ≤ 9223372036854775807) :
    Calls Tryd.prog 5 #[.slice Aa N ca, .int .i64 day, .int .i64 other] w fun e w' => e = .returned (.bool true) ∧ Below w.heap.size w w' := by
  by_cases h60 : (N : Int) ≤ 60
  · have la : N ≤ 2000000 := by omega
    have Za := Lib.hid za
    clear za
    have hdec : decide ((N : Int) ≤ 60) = true := by simpa using h60
    have HDec := Lib.hid hdec
    clear hdec
    by_cases hr : 0 ≤ other ∧ other ≤ 1048576
    · obtain ⟨r0, r1⟩ := hr
      rcases Int.lt_or_le other day with hlt | hlt
      · cases hin : conB La other
        · have HIn : Hid (conB La other = false) := Lib.hid hin
          have HTv : Hid ((conB La other && decide (other < day)) = false) := Lib.hid (by rw [hin]; simp; try omega)
          have HXv : Hid ((decide (0 ≤ other ∧ other ≤ 1048576) && (decide (day ≤ other) || conB La other)) = false) := Lib.hid (by rw [hin]; simp; try omega)
          clear hin
          go_enter Tryd.func5, Tryd.ntmps5
          go_wp2_with (first
            | (go_at_call 9; ((with_reducible refine (awake_c _ ht).mono ?_); rintro e w1 ⟨rfl, h1⟩))
            | (go_at_call 10; ((with_reducible refine (few1 _ _ _ _ (by omega)).mono ?_); rw [HDec.out]; rintro e w2 ⟨rfl, h2⟩))
            | (go_at_call 27; ((with_reducible refine (truncate_c _ _ _ _ _ day ((Za.out.below (h1.trans (h2.mono h1.size))).mono (Below.size (h1.trans (h2.mono h1.size)))) la).mono ?_); rintro e w3 ⟨⟨A3, n3, c3, rfl, z3, i3, l3⟩, h3⟩; have Z3 := Lib.hid z3; have I3 := Lib.hid i3; clear z3 i3))
            | (go_at_call 28; ((with_reducible refine (extend_c _ _ _ _ _ day ((Za.out.below (h1.trans ((h2.trans (h3.mono h2.size)).mono h1.size))).mono (Below.size (h1.trans ((h2.trans (h3.mono h2.size)).mono h1.size)))) la).mono ?_); rintro e w4 ⟨⟨A4, n4, c4, rfl, z4, i4, l4⟩, h4⟩; have Z4 := Lib.hid z4; have I4 := Lib.hid i4; clear z4 i4))
            | (go_at_call 29; ((with_reducible refine (until_c _ _ _ _ _ day ((Za.out.below (h1.trans ((h2.trans ((h3.trans (h4.mono h3.size)).mono h2.size)).mono h1.size))).mono (Below.size (h1.trans ((h2.trans ((h3.trans (h4.mono h3.size)).mono h2.size)).mono h1.size)))) (by omega) xa).mono ?_); rintro e w5 ⟨⟨A5, n5, c5, rfl, z5, i5, l5, x5⟩, h5⟩; have Z5 := Lib.hid z5; have I5 := Lib.hid i5; clear z5 i5))
            | (go_at_call 13; ((with_reducible refine (same_c _ _ _ _ _ _ _ _ _ rfl ((Z3.out.below (h4.trans (h5.mono h4.size))).mono (Below.size (h4.trans (h5.mono h4.size)))) Z5.out l3 (by omega)).mono ?_); rintro e w6 ⟨rfl, h6⟩))
            | (go_at_call 30; ((with_reducible refine (since_c _ _ _ _ _ day ((Za.out.below (h1.trans ((h2.trans ((h3.trans ((h4.trans ((h5.trans (h6.mono h5.size)).mono h4.size)).mono h3.size)).mono h2.size)).mono h1.size))).mono (Below.size (h1.trans ((h2.trans ((h3.trans ((h4.trans ((h5.trans (h6.mono h5.size)).mono h4.size)).mono h3.size)).mono h2.size)).mono h1.size)))) (by omega) xa).mono ?_); rintro e w7 ⟨⟨A7, n7, c7, rfl, z7, i7, l7, x7⟩, h7⟩; have Z7 := Lib.hid z7; have I7 := Lib.hid i7; clear z7 i7))
            | (go_at_call 13; ((with_reducible refine (same_c _ _ _ _ _ _ _ _ _ rfl ((Z4.out.below (h5.trans ((h6.trans (h7.mono h6.size)).mono h5.size))).mono (Below.size (h5.trans ((h6.trans (h7.mono h6.size)).mono h5.size)))) Z7.out l4 (by omega)).mono ?_); rintro e w8 ⟨rfl, h8⟩))
            | (go_at_call 11; ((with_reducible refine (validK_c _ _ _ _ _ I3.out (len_le Z5.out l5 (by omega)) ((Z3.out.below (h4.trans ((h5.trans ((h6.trans ((h7.trans (h8.mono h7.size)).mono h6.size)).mono h5.size)).mono h4.size))).mono (Below.size (h4.trans ((h5.trans ((h6.trans ((h7.trans (h8.mono h7.size)).mono h6.size)).mono h5.size)).mono h4.size)))) l3).mono ?_); rintro e w9 ⟨rfl, h9⟩))
            | (go_at_call 11; ((with_reducible refine (validK_c _ _ _ _ _ I4.out (len_le Z7.out l7 (by omega)) ((Z4.out.below (h5.trans ((h6.trans ((h7.trans ((h8.trans (h9.mono h8.size)).mono h7.size)).mono h6.size)).mono h5.size))).mono (Below.size (h5.trans ((h6.trans ((h7.trans ((h8.trans (h9.mono h8.size)).mono h7.size)).mono h6.size)).mono h5.size)))) l4).mono ?_); rintro e w10 ⟨rfl, h10⟩))
            | (go_at_call 16; ((with_reducible refine (containsV_c _ _ _ _ other _ _ HIn.out ((Za.out.below (h1.trans ((h2.trans ((h3.trans ((h4.trans ((h5.trans ((h6.trans ((h7.trans ((h8.trans ((h9.trans (h10.mono h9.size)).mono h8.size)).mono h7.size)).mono h6.size)).mono h5.size)).mono h4.size)).mono h3.size)).mono h2.size)).mono h1.size))).mono (Below.size (h1.trans ((h2.trans ((h3.trans ((h4.trans ((h5.trans ((h6.trans ((h7.trans ((h8.trans ((h9.trans (h10.mono h9.size)).mono h8.size)).mono h7.size)).mono h6.size)).mono h5.size)).mono h4.size)).mono h3.size)).mono h2.size)).mono h1.size)))) la).mono ?_); rintro e w11 ⟨rfl, h11⟩))
            | (go_at_call 16; ((with_reducible refine (containsV_c _ _ _ _ other _ _ ((valT I3.out other).trans HTv.out) ((Z3.out.below (h4.trans ((h5.trans ((h6.trans ((h7.trans ((h8.trans ((h9.trans ((h10.trans (h11.mono h10.size)).mono h9.size)).mono h8.size)).mono h7.size)).mono h6.size)).mono h5.size)).mono h4.size))).mono (Below.size (h4.trans ((h5.trans ((h6.trans ((h7.trans ((h8.trans ((h9.trans ((h10.trans (h11.mono h10.size)).mono h9.size)).mono h8.size)).mono h7.size)).mono h6.size)).mono h5.size)).mono h4.size)))) l3).mono ?_); rintro e w12 ⟨rfl, h12⟩))
            | (go_at_call 16; ((with_reducible refine (containsV_c _ _ _ _ other _ _ ((valX I4.out other).trans HXv.out) ((Z4.out.below (h5.trans ((h6.trans ((h7.trans ((h8.trans ((h9.trans ((h10.trans ((h11.trans (h12.mono h11.size)).mono h10.size)).mono h9.size)).mono h8.size)).mono h7.size)).mono h6.size)).mono h5.size))).mono (Below.size (h5.trans ((h6.trans ((h7.trans ((h8.trans ((h9.trans ((h10.trans ((h11.trans (h12.mono h11.size)).mono h10.size)).mono h9.size)).mono h8.size)).mono h7.size)).mono h6.size)).mono h5.size)))) l4).mono ?_); rintro e w13 ⟨rfl, h13⟩)))
          go_ret
          exact ⟨ret_bool (by first | rfl | (simp; done) | (simp; omega)), (h1.trans ((h2.trans ((h3.trans ((h4.trans ((h5.trans ((h6.trans ((h7.trans ((h8.trans ((h9.trans ((h10.trans ((h11.trans ((h12.trans (h13.mono h12.size)).mono h11.size)).mono h10.size)).mono h9.size)).mono h8.size)).mono h7.size)).mono h6.size)).mono h5.size)).mono h4.size)).mono h3.size)).mono h2.size)).mono h1.size))⟩
        · have HIn : Hid (conB La other = true) := Lib.hid hin
          have HTv : Hid ((conB La other && decide (other < day)) = true) := Lib.hid (by rw [hin]; simp; try omega)
          have HXv : Hid ((decide (0 ≤ other ∧ other ≤ 1048576) && (decide (day ≤ other) || conB La other)) = true) := Lib.hid (by rw [hin]; simp; try omega)
          clear hin
          go_enter Tryd.func5, Tryd.ntmps5
          go_wp2_with (first
            | (go_at_call 9; ((with_reducible refine (awake_c _ ht).mono ?_); rintro e w1 ⟨rfl, h1⟩))
            | (go_at_call 10; ((with_reducible refine (few1 _ _ _ _ (by omega)).mono ?_); rw [HDec.out]; rintro e w2 ⟨rfl, h2⟩))
            | (go_at_call 27; ((with_reducible refine (truncate_c _ _ _ _ _ day ((Za.out.below (h1.trans (h2.mono h1.size))).mono (Below.size (h1.trans (h2.mono h1.size)))) la).mono ?_); rintro e w3 ⟨⟨A3, n3, c3, rfl, z3, i3, l3⟩, h3⟩; have Z3 := Lib.hid z3; have I3 := Lib.hid i3; clear z3 i3))
            | (go_at_call 28; ((with_reducible refine (extend_c _ _ _ _ _ day ((Za.out.below (h1.trans ((h2.trans (h3.mono h2.size)).mono h1.size))).mono (Below.size (h1.trans ((h2.trans (h3.mono h2.size)).mono h1.size)))) la).mono ?_); rintro e w4 ⟨⟨A4, n4, c4, rfl, z4, i4, l4⟩, h4⟩; have Z4 := Lib.hid z4; have I4 := Lib.hid i4; clear z4 i4))
            | (go_at_call 29; ((with_reducible refine (until_c _ _ _ _ _ day ((Za.out.below (h1.trans ((h2.trans ((h3.trans (h4.mono h3.size)).mono h2.size)).mono h1.size))).mono (Below.size (h1.trans ((h2.trans ((h3.trans (h4.mono h3.size)).mono h2.size)).mono h1.size)))) (by omega) xa).mono ?_); rintro e w5 ⟨⟨A5, n5, c5, rfl, z5, i5, l5, x5⟩, h5⟩; have Z5 := Lib.hid z5; have I5 := Lib.hid i5; clear z5 i5))
            | (go_at_call 13; ((with_reducible refine (same_c _ _ _ _ _ _ _ _ _ rfl ((Z3.out.below (h4.trans (h5.mono h4.size))).mono (Below.size (h4.trans (h5.mono h4.size)))) Z5.out l3 (by omega)).mono ?_); rintro e w6 ⟨rfl, h6⟩))
            | (go_at_call 30; ((with_reducible refine (since_c _ _ _ _ _ day ((Za.out.below (h1.trans ((h2.trans ((h3.trans ((h4.trans ((h5.trans (h6.mono h5.size)).mono h4.size)).mono h3.size)).mono h2.size)).mono h1.size))).mono (Below.size (h1.trans ((h2.trans ((h3.trans ((h4.trans ((h5.trans (h6.mono h5.size)).mono h4.size)).mono h3.size)).mono h2.size)).mono h1.size)))) (by omega) xa).mono ?_); rintro e w7 ⟨⟨A7, n7, c7, rfl, z7, i7, l7, x7⟩, h7⟩; have Z7 := Lib.hid z7; have I7 := Lib.hid i7; clear z7 i7))
            | (go_at_call 13; ((with_reducible refine (same_c _ _ _ _ _ _ _ _ _ rfl ((Z4.out.below (h5.trans ((h6.trans (h7.mono h6.size)).mono h5.size))).mono (Below.size (h5.trans ((h6.trans (h7.mono h6.size)).mono h5.size)))) Z7.out l4 (by omega)).mono ?_); rintro e w8 ⟨rfl, h8⟩))
            | (go_at_call 11; ((with_reducible refine (validK_c _ _ _ _ _ I3.out (len_le Z5.out l5 (by omega)) ((Z3.out.below (h4.trans ((h5.trans ((h6.trans ((h7.trans (h8.mono h7.size)).mono h6.size)).mono h5.size)).mono h4.size))).mono (Below.size (h4.trans ((h5.trans ((h6.trans ((h7.trans (h8.mono h7.size)).mono h6.size)).mono h5.size)).mono h4.size)))) l3).mono ?_); rintro e w9 ⟨rfl, h9⟩))
            | (go_at_call 11; ((with_reducible refine (validK_c _ _ _ _ _ I4.out (len_le Z7.out l7 (by omega)) ((Z4.out.below (h5.trans ((h6.trans ((h7.trans ((h8.trans (h9.mono h8.size)).mono h7.size)).mono h6.size)).mono h5.size))).mono (Below.size (h5.trans ((h6.trans ((h7.trans ((h8.trans (h9.mono h8.size)).mono h7.size)).mono h6.size)).mono h5.size)))) l4).mono ?_); rintro e w10 ⟨rfl, h10⟩))
            | (go_at_call 16; ((with_reducible refine (containsV_c _ _ _ _ other _ _ HIn.out ((Za.out.below (h1.trans ((h2.trans ((h3.trans ((h4.trans ((h5.trans ((h6.trans ((h7.trans ((h8.trans ((h9.trans (h10.mono h9.size)).mono h8.size)).mono h7.size)).mono h6.size)).mono h5.size)).mono h4.size)).mono h3.size)).mono h2.size)).mono h1.size))).mono (Below.size (h1.trans ((h2.trans ((h3.trans ((h4.trans ((h5.trans ((h6.trans ((h7.trans ((h8.trans ((h9.trans (h10.mono h9.size)).mono h8.size)).mono h7.size)).mono h6.size)).mono h5.size)).mono h4.size)).mono h3.size)).mono h2.size)).mono h1.size)))) la).mono ?_); rintro e w11 ⟨rfl, h11⟩))
            | (go_at_call 16; ((with_reducible refine (containsV_c _ _ _ _ other _ _ ((valT I3.out other).trans HTv.out) ((Z3.out.below (h4.trans ((h5.trans ((h6.trans ((h7.trans ((h8.trans ((h9.trans ((h10.trans (h11.mono h10.size)).mono h9.size)).mono h8.size)).mono h7.size)).mono h6.size)).mono h5.size)).mono h4.size))).mono (Below.size (h4.trans ((h5.trans ((h6.trans ((h7.trans ((h8.trans ((h9.trans ((h10.trans (h11.mono h10.size)).mono h9.size)).mono h8.size)).mono h7.size)).mono h6.size)).mono h5.size)).mono h4.size)))) l3).mono ?_); rintro e w12 ⟨rfl, h12⟩))
            | (go_at_call 16; ((with_reducible refine (containsV_c _ _ _ _ other _ _ ((valX I4.out other).trans HXv.out) ((Z4.out.below (h5.trans ((h6.trans ((h7.trans ((h8.trans ((h9.trans ((h10.trans ((h11.trans (h12.mono h11.size)).mono h10.size)).mono h9.size)).mono h8.size)).mono h7.size)).mono h6.size)).mono h5.size))).mono (Below.size (h5.trans ((h6.trans ((h7.trans ((h8.trans ((h9.trans ((h10.trans ((h11.trans (h12.mono h11.size)).mono h10.size)).mono h9.size)).mono h8.size)).mono h7.size)).mono h6.size)).mono h5.size)))) l4).mono ?_); rintro e w13 ⟨rfl, h13⟩)))
          go_ret
          exact ⟨ret_bool (by first | rfl | (simp; done) | (simp; omega)), (h1.trans ((h2.trans ((h3.trans ((h4.trans ((h5.trans ((h6.trans ((h7.trans ((h8.trans ((h9.trans ((h10.trans ((h11.trans ((h12.trans (h13.mono h12.size)).mono h11.size)).mono h10.size)).mono h9.size)).mono h8.size)).mono h7.size)).mono h6.size)).mono h5.size)).mono h4.size)).mono h3.size)).mono h2.size)).mono h1.size))⟩
      · cases hin : conB La other
        · have HIn : Hid (conB La other = false) := Lib.hid hin
          have HTv : Hid ((conB La other && decide (other < day)) = false) := Lib.hid (by rw [hin]; simp; try omega)
          have HXv : Hid ((decide (0 ≤ other ∧ other ≤ 1048576) && (decide (day ≤ other) || conB La other)) = true) := Lib.hid (by rw [hin]; simp; try omega)
          clear hin
          go_enter Tryd.func5, Tryd.ntmps5
          go_wp2_with (first
            | (go_at_call 9; ((with_reducible refine (awake_c _ ht).mono ?_); rintro e w1 ⟨rfl, h1⟩))
            | (go_at_call 10; ((with_reducible refine (few1 _ _ _ _ (by omega)).mono ?_); rw [HDec.out]; rintro e w2 ⟨rfl, h2⟩))
            | (go_at_call 27; ((with_reducible refine (truncate_c _ _ _ _ _ day ((Za.out.below (h1.trans (h2.mono h1.size))).mono (Below.size (h1.trans (h2.mono h1.size)))) la).mono ?_); rintro e w3 ⟨⟨A3, n3, c3, rfl, z3, i3, l3⟩, h3⟩; have Z3 := Lib.hid z3; have I3 := Lib.hid i3; clear z3 i3))
            | (go_at_call 28; ((with_reducible refine (extend_c _ _ _ _ _ day ((Za.out.below (h1.trans ((h2.trans (h3.mono h2.size)).mono h1.size))).mono (Below.size (h1.trans ((h2.trans (h3.mono h2.size)).mono h1.size)))) la).mono ?_); rintro e w4 ⟨⟨A4, n4, c4, rfl, z4, i4, l4⟩, h4⟩; have Z4 := Lib.hid z4; have I4 := Lib.hid i4; clear z4 i4))
            | (go_at_call 29; ((with_reducible refine (until_c _ _ _ _ _ day ((Za.out.below (h1.trans ((h2.trans ((h3.trans (h4.mono h3.size)).mono h2.size)).mono h1.size))).mono (Below.size (h1.trans ((h2.trans ((h3.trans (h4.mono h3.size)).mono h2.size)).mono h1.size)))) (by omega) xa).mono ?_); rintro e w5 ⟨⟨A5, n5, c5, rfl, z5, i5, l5, x5⟩, h5⟩; have Z5 := Lib.hid z5; have I5 := Lib.hid i5; clear z5 i5))
            | (go_at_call 13; ((with_reducible refine (same_c _ _ _ _ _ _ _ _ _ rfl ((Z3.out.below (h4.trans (h5.mono h4.size))).mono (Below.size (h4.trans (h5.mono h4.size)))) Z5.out l3 (by omega)).mono ?_); rintro e w6 ⟨rfl, h6⟩))
            | (go_at_call 30; ((with_reducible refine (since_c _ _ _ _ _ day ((Za.out.below (h1.trans ((h2.trans ((h3.trans ((h4.trans ((h5.trans (h6.mono h5.size)).mono h4.size)).mono h3.size)).mono h2.size)).mono h1.size))).mono (Below.size (h1.trans ((h2.trans ((h3.trans ((h4.trans ((h5.trans (h6.mono h5.size)).mono h4.size)).mono h3.size)).mono h2.size)).mono h1.size)))) (by omega) xa).mono ?_); rintro e w7 ⟨⟨A7, n7, c7, rfl, z7, i7, l7, x7⟩, h7⟩; have Z7 := Lib.hid z7; have I7 := Lib.hid i7; clear z7 i7))
            | (go_at_call 13; ((with_reducible refine (same_c _ _ _ _ _ _ _ _ _ rfl ((Z4.out.below (h5.trans ((h6.trans (h7.mono h6.size)).mono h5.size))).mono (Below.size (h5.trans ((h6.trans (h7.mono h6.size)).mono h5.size)))) Z7.out l4 (by omega)).mono ?_); rintro e w8 ⟨rfl, h8⟩))
            | (go_at_call 11; ((with_reducible refine (validK_c _ _ _ _ _ I3.out (len_le Z5.out l5 (by omega)) ((Z3.out.below (h4.trans ((h5.trans ((h6.trans ((h7.trans (h8.mono h7.size)).mono h6.size)).mono h5.size)).mono h4.size))).mono (Below.size (h4.trans ((h5.trans ((h6.trans ((h7.trans (h8.mono h7.size)).mono h6.size)).mono h5.size)).mono h4.size)))) l3).mono ?_); rintro e w9 ⟨rfl, h9⟩))
            | (go_at_call 11; ((with_reducible refine (validK_c _ _ _ _ _ I4.out (len_le Z7.out l7 (by omega)) ((Z4.out.below (h5.trans ((h6.trans ((h7.trans ((h8.trans (h9.mono h8.size)).mono h7.size)).mono h6.size)).mono h5.size))).mono (Below.size (h5.trans ((h6.trans ((h7.trans ((h8.trans (h9.mono h8.size)).mono h7.size)).mono h6.size)).mono h5.size)))) l4).mono ?_); rintro e w10 ⟨rfl, h10⟩))
            | (go_at_call 16; ((with_reducible refine (containsV_c _ _ _ _ other _ _ HIn.out ((Za.out.below (h1.trans ((h2.trans ((h3.trans ((h4.trans ((h5.trans ((h6.trans ((h7.trans ((h8.trans ((h9.trans (h10.mono h9.size)).mono h8.size)).mono h7.size)).mono h6.size)).mono h5.size)).mono h4.size)).mono h3.size)).mono h2.size)).mono h1.size))).mono (Below.size (h1.trans ((h2.trans ((h3.trans ((h4.trans ((h5.trans ((h6.trans ((h7.trans ((h8.trans ((h9.trans (h10.mono h9.size)).mono h8.size)).mono h7.size)).mono h6.size)).mono h5.size)).mono h4.size)).mono h3.size)).mono h2.size)).mono h1.size)))) la).mono ?_); rintro e w11 ⟨rfl, h11⟩))
            | (go_at_call 16; ((with_reducible refine (containsV_c _ _ _ _ other _ _ ((valT I3.out other).trans HTv.out) ((Z3.out.below (h4.trans ((h5.trans ((h6.trans ((h7.trans ((h8.trans ((h9.trans ((h10.trans (h11.mono h10.size)).mono h9.size)).mono h8.size)).mono h7.size)).mono h6.size)).mono h5.size)).mono h4.size))).mono (Below.size (h4.trans ((h5.trans ((h6.trans ((h7.trans ((h8.trans ((h9.trans ((h10.trans (h11.mono h10.size)).mono h9.size)).mono h8.size)).mono h7.size)).mono h6.size)).mono h5.size)).mono h4.size)))) l3).mono ?_); rintro e w12 ⟨rfl, h12⟩))
            | (go_at_call 16; ((with_reducible refine (containsV_c _ _ _ _ other _ _ ((valX I4.out other).trans HXv.out) ((Z4.out.below (h5.trans ((h6.trans ((h7.trans ((h8.trans ((h9.trans ((h10.trans ((h11.trans (h12.mono h11.size)).mono h10.size)).mono h9.size)).mono h8.size)).mono h7.size)).mono h6.size)).mono h5.size))).mono (Below.size (h5.trans ((h6.trans ((h7.trans ((h8.trans ((h9.trans ((h10.trans ((h11.trans (h12.mono h11.size)).mono h10.size)).mono h9.size)).mono h8.size)).mono h7.size)).mono h6.size)).mono h5.size)))) l4).mono ?_); rintro e w13 ⟨rfl, h13⟩)))
          go_ret
          exact ⟨ret_bool (by first | rfl | (simp; done) | (simp; omega)), (h1.trans ((h2.trans ((h3.trans ((h4.trans ((h5.trans ((h6.trans ((h7.trans ((h8.trans ((h9.trans ((h10.trans ((h11.trans ((h12.trans (h13.mono h12.size)).mono h11.size)).mono h10.size)).mono h9.size)).mono h8.size)).mono h7.size)).mono h6.size)).mono h5.size)).mono h4.size)).mono h3.size)).mono h2.size)).mono h1.size))⟩
        · have HIn : Hid (conB La other = true) := Lib.hid hin
          have HTv : Hid ((conB La other && decide (other < day)) = false) := Lib.hid (by rw [hin]; simp; try omega)
          have HXv : Hid ((decide (0 ≤ other ∧ other ≤ 1048576) && (decide (day ≤ other) || conB La other)) = true) := Lib.hid (by rw [hin]; simp; try omega)
          clear hin
          go_enter Tryd.func5, Tryd.ntmps5
          go_wp2_with (first
            | (go_at_call 9; ((with_reducible refine (awake_c _ ht).mono ?_); rintro e w1 ⟨rfl, h1⟩))
            | (go_at_call 10; ((with_reducible refine (few1 _ _ _ _ (by omega)).mono ?_); rw [HDec.out]; rintro e w2 ⟨rfl, h2⟩))
            | (go_at_call 27; ((with_reducible refine (truncate_c _ _ _ _ _ day ((Za.out.below (h1.trans (h2.mono h1.size))).mono (Below.size (h1.trans (h2.mono h1.size)))) la).mono ?_); rintro e w3 ⟨⟨A3, n3, c3, rfl, z3, i3, l3⟩, h3⟩; have Z3 := Lib.hid z3; have I3 := Lib.hid i3; clear z3 i3))
            | (go_at_call 28; ((with_reducible refine (extend_c _ _ _ _ _ day ((Za.out.below (h1.trans ((h2.trans (h3.mono h2.size)).mono h1.size))).mono (Below.size (h1.trans ((h2.trans (h3.mono h2.size)).mono h1.size)))) la).mono ?_); rintro e w4 ⟨⟨A4, n4, c4, rfl, z4, i4, l4⟩, h4⟩; have Z4 := Lib.hid z4; have I4 := Lib.hid i4; clear z4 i4))
            | (go_at_call 29; ((with_reducible refine (until_c _ _ _ _ _ day ((Za.out.below (h1.trans ((h2.trans ((h3.trans (h4.mono h3.size)).mono h2.size)).mono h1.size))).mono (Below.size (h1.trans ((h2.trans ((h3.trans (h4.mono h3.size)).mono h2.size)).mono h1.size)))) (by omega) xa).mono ?_); rintro e w5 ⟨⟨A5, n5, c5, rfl, z5, i5, l5, x5⟩, h5⟩; have Z5 := Lib.hid z5; have I5 := Lib.hid i5; clear z5 i5))
            | (go_at_call 13; ((with_reducible refine (same_c _ _ _ _ _ _ _ _ _ rfl ((Z3.out.below (h4.trans (h5.mono h4.size))).mono (Below.size (h4.trans (h5.mono h4.size)))) Z5.out l3 (by omega)).mono ?_); rintro e w6 ⟨rfl, h6⟩))
            | (go_at_call 30; ((with_reducible refine (since_c _ _ _ _ _ day ((Za.out.below (h1.trans ((h2.trans ((h3.trans ((h4.trans ((h5.trans (h6.mono h5.size)).mono h4.size)).mono h3.size)).mono h2.size)).mono h1.size))).mono (Below.size (h1.trans ((h2.trans ((h3.trans ((h4.trans ((h5.trans (h6.mono h5.size)).mono h4.size)).mono h3.size)).mono h2.size)).mono h1.size)))) (by omega) xa).mono ?_); rintro e w7 ⟨⟨A7, n7, c7, rfl, z7, i7, l7, x7⟩, h7⟩; have Z7 := Lib.hid z7; have I7 := Lib.hid i7; clear z7 i7))
            | (go_at_call 13; ((with_reducible refine (same_c _ _ _ _ _ _ _ _ _ rfl ((Z4.out.below (h5.trans ((h6.trans (h7.mono h6.size)).mono h5.size))).mono (Below.size (h5.trans ((h6.trans (h7.mono h6.size)).mono h5.size)))) Z7.out l4 (by omega)).mono ?_); rintro e w8 ⟨rfl, h8⟩))
            | (go_at_call 11; ((with_reducible refine (validK_c _ _ _ _ _ I3.out (len_le Z5.out l5 (by omega)) ((Z3.out.below (h4.trans ((h5.trans ((h6.trans ((h7.trans (h8.mono h7.size)).mono h6.size)).mono h5.size)).mono h4.size))).mono (Below.size (h4.trans ((h5.trans ((h6.trans ((h7.trans (h8.mono h7.size)).mono h6.size)).mono h5.size)).mono h4.size)))) l3).mono ?_); rintro e w9 ⟨rfl, h9⟩))
            | (go_at_call 11; ((with_reducible refine (validK_c _ _ _ _ _ I4.out (len_le Z7.out l7 (by omega)) ((Z4.out.below (h5.trans ((h6.trans ((h7.trans ((h8.trans (h9.mono h8.size)).mono h7.size)).mono h6.size)).mono h5.size))).mono (Below.size (h5.trans ((h6.trans ((h7.trans ((h8.trans (h9.mono h8.size)).mono h7.size)).mono h6.size)).mono h5.size)))) l4).mono ?_); rintro e w10 ⟨rfl, h10⟩))
            | (go_at_call 16; ((with_reducible refine (containsV_c _ _ _ _ other _ _ HIn.out ((Za.out.below (h1.trans ((h2.trans ((h3.trans ((h4.trans ((h5.trans ((h6.trans ((h7.trans ((h8.trans ((h9.trans (h10.mono h9.size)).mono h8.size)).mono h7.size)).mono h6.size)).mono h5.size)).mono h4.size)).mono h3.size)).mono h2.size)).mono h1.size))).mono (Below.size (h1.trans ((h2.trans ((h3.trans ((h4.trans ((h5.trans ((h6.trans ((h7.trans ((h8.trans ((h9.trans (h10.mono h9.size)).mono h8.size)).mono h7.size)).mono h6.size)).mono h5.size)).mono h4.size)).mono h3.size)).mono h2.size)).mono h1.size)))) la).mono ?_); rintro e w11 ⟨rfl, h11⟩))
            | (go_at_call 16; ((with_reducible refine (containsV_c _ _ _ _ other _ _ ((valT I3.out other).trans HTv.out) ((Z3.out.below (h4.trans ((h5.trans ((h6.trans ((h7.trans ((h8.trans ((h9.trans ((h10.trans (h11.mono h10.size)).mono h9.size)).mono h8.size)).mono h7.size)).mono h6.size)).mono h5.size)).mono h4.size))).mono (Below.size (h4.trans ((h5.trans ((h6.trans ((h7.trans ((h8.trans ((h9.trans ((h10.trans (h11.mono h10.size)).mono h9.size)).mono h8.size)).mono h7.size)).mono h6.size)).mono h5.size)).mono h4.size)))) l3).mono ?_); rintro e w12 ⟨rfl, h12⟩))
            | (go_at_call 16; ((with_reducible refine (containsV_c _ _ _ _ other _ _ ((valX I4.out other).trans HXv.out) ((Z4.out.below (h5.trans ((h6.trans ((h7.trans ((h8.trans ((h9.trans ((h10.trans ((h11.trans (h12.mono h11.size)).mono h10.size)).mono h9.size)).mono h8.size)).mono h7.size)).mono h6.size)).mono h5.size))).mono (Below.size (h5.trans ((h6.trans ((h7.trans ((h8.trans ((h9.trans ((h10.trans ((h11.trans (h12.mono h11.size)).mono h10.size)).mono h9.size)).mono h8.size)).mono h7.size)).mono h6.size)).mono h5.size)))) l4).mono ?_); rintro e w13 ⟨rfl, h13⟩)))
          go_ret
          exact ⟨ret_bool (by first | rfl | (simp; done) | (simp; omega)), (h1.trans ((h2.trans ((h3.trans ((h4.trans ((h5.trans ((h6.trans ((h7.trans ((h8.trans ((h9.trans ((h10.trans ((h11.trans ((h12.trans (h13.mono h12.size)).mono h11.size)).mono h10.size)).mono h9.size)).mono h8.size)).mono h7.size)).mono h6.size)).mono h5.size)).mono h4.size)).mono h3.size)).mono h2.size)).mono h1.size))⟩
    · have hin : conB La other = false := by unfold conB; rw [decide_eq_false hr, Bool.false_and]
      have hr' : other < 0 ∨ 1048576 < other := by omega
      rcases hr' with hr' | hr'
      · have HIn : Hid (conB La other = false) := Lib.hid hin
        have HTv : Hid ((conB La other && decide (other < day)) = false) := Lib.hid (by rw [hin]; simp; try omega)
        have HXv : Hid ((decide (0 ≤ other ∧ other ≤ 1048576) && (decide (day ≤ other) || conB La other)) = false) := Lib.hid (by rw [hin]; simp; try omega)
        clear hin
        go_enter Tryd.func5, Tryd.ntmps5
        go_wp2_with (first
          | (go_at_call 9; ((with_reducible refine (awake_c _ ht).mono ?_); rintro e w1 ⟨rfl, h1⟩))
          | (go_at_call 10; ((with_reducible refine (few1 _ _ _ _ (by omega)).mono ?_); rw [HDec.out]; rintro e w2 ⟨rfl, h2⟩))
          | (go_at_call 27; ((with_reducible refine (truncate_c _ _ _ _ _ day ((Za.out.below (h1.trans (h2.mono h1.size))).mono (Below.size (h1.trans (h2.mono h1.size)))) la).mono ?_); rintro e w3 ⟨⟨A3, n3, c3, rfl, z3, i3, l3⟩, h3⟩; have Z3 := Lib.hid z3; have I3 := Lib.hid i3; clear z3 i3))
          | (go_at_call 28; ((with_reducible refine (extend_c _ _ _ _ _ day ((Za.out.below (h1.trans ((h2.trans (h3.mono h2.size)).mono h1.size))).mono (Below.size (h1.trans ((h2.trans (h3.mono h2.size)).mono h1.size)))) la).mono ?_); rintro e w4 ⟨⟨A4, n4, c4, rfl, z4, i4, l4⟩, h4⟩; have Z4 := Lib.hid z4; have I4 := Lib.hid i4; clear z4 i4))
          | (go_at_call 29; ((with_reducible refine (until_c _ _ _ _ _ day ((Za.out.below (h1.trans ((h2.trans ((h3.trans (h4.mono h3.size)).mono h2.size)).mono h1.size))).mono (Below.size (h1.trans ((h2.trans ((h3.trans (h4.mono h3.size)).mono h2.size)).mono h1.size)))) (by omega) xa).mono ?_); rintro e w5 ⟨⟨A5, n5, c5, rfl, z5, i5, l5, x5⟩, h5⟩; have Z5 := Lib.hid z5; have I5 := Lib.hid i5; clear z5 i5))
          | (go_at_call 13; ((with_reducible refine (same_c _ _ _ _ _ _ _ _ _ rfl ((Z3.out.below (h4.trans (h5.mono h4.size))).mono (Below.size (h4.trans (h5.mono h4.size)))) Z5.out l3 (by omega)).mono ?_); rintro e w6 ⟨rfl, h6⟩))
          | (go_at_call 30; ((with_reducible refine (since_c _ _ _ _ _ day ((Za.out.below (h1.trans ((h2.trans ((h3.trans ((h4.trans ((h5.trans (h6.mono h5.size)).mono h4.size)).mono h3.size)).mono h2.size)).mono h1.size))).mono (Below.size (h1.trans ((h2.trans ((h3.trans ((h4.trans ((h5.trans (h6.mono h5.size)).mono h4.size)).mono h3.size)).mono h2.size)).mono h1.size)))) (by omega) xa).mono ?_); rintro e w7 ⟨⟨A7, n7, c7, rfl, z7, i7, l7, x7⟩, h7⟩; have Z7 := Lib.hid z7; have I7 := Lib.hid i7; clear z7 i7))
          | (go_at_call 13; ((with_reducible refine (same_c _ _ _ _ _ _ _ _ _ rfl ((Z4.out.below (h5.trans ((h6.trans (h7.mono h6.size)).mono h5.size))).mono (Below.size (h5.trans ((h6.trans (h7.mono h6.size)).mono h5.size)))) Z7.out l4 (by omega)).mono ?_); rintro e w8 ⟨rfl, h8⟩))
          | (go_at_call 11; ((with_reducible refine (validK_c _ _ _ _ _ I3.out (len_le Z5.out l5 (by omega)) ((Z3.out.below (h4.trans ((h5.trans ((h6.trans ((h7.trans (h8.mono h7.size)).mono h6.size)).mono h5.size)).mono h4.size))).mono (Below.size (h4.trans ((h5.trans ((h6.trans ((h7.trans (h8.mono h7.size)).mono h6.size)).mono h5.size)).mono h4.size)))) l3).mono ?_); rintro e w9 ⟨rfl, h9⟩))
          | (go_at_call 11; ((with_reducible refine (validK_c _ _ _ _ _ I4.out (len_le Z7.out l7 (by omega)) ((Z4.out.below (h5.trans ((h6.trans ((h7.trans ((h8.trans (h9.mono h8.size)).mono h7.size)).mono h6.size)).mono h5.size))).mono (Below.size (h5.trans ((h6.trans ((h7.trans ((h8.trans (h9.mono h8.size)).mono h7.size)).mono h6.size)).mono h5.size)))) l4).mono ?_); rintro e w10 ⟨rfl, h10⟩))
          | (go_at_call 16; ((with_reducible refine (containsV_c _ _ _ _ other _ _ HIn.out ((Za.out.below (h1.trans ((h2.trans ((h3.trans ((h4.trans ((h5.trans ((h6.trans ((h7.trans ((h8.trans ((h9.trans (h10.mono h9.size)).mono h8.size)).mono h7.size)).mono h6.size)).mono h5.size)).mono h4.size)).mono h3.size)).mono h2.size)).mono h1.size))).mono (Below.size (h1.trans ((h2.trans ((h3.trans ((h4.trans ((h5.trans ((h6.trans ((h7.trans ((h8.trans ((h9.trans (h10.mono h9.size)).mono h8.size)).mono h7.size)).mono h6.size)).mono h5.size)).mono h4.size)).mono h3.size)).mono h2.size)).mono h1.size)))) la).mono ?_); rintro e w11 ⟨rfl, h11⟩))
          | (go_at_call 16; ((with_reducible refine (containsV_c _ _ _ _ other _ _ ((valT I3.out other).trans HTv.out) ((Z3.out.below (h4.trans ((h5.trans ((h6.trans ((h7.trans ((h8.trans ((h9.trans ((h10.trans (h11.mono h10.size)).mono h9.size)).mono h8.size)).mono h7.size)).mono h6.size)).mono h5.size)).mono h4.size))).mono (Below.size (h4.trans ((h5.trans ((h6.trans ((h7.trans ((h8.trans ((h9.trans ((h10.trans (h11.mono h10.size)).mono h9.size)).mono h8.size)).mono h7.size)).mono h6.size)).mono h5.size)).mono h4.size)))) l3).mono ?_); rintro e w12 ⟨rfl, h12⟩))
          | (go_at_call 16; ((with_reducible refine (containsV_c _ _ _ _ other _ _ ((valX I4.out other).trans HXv.out) ((Z4.out.below (h5.trans ((h6.trans ((h7.trans ((h8.trans ((h9.trans ((h10.trans ((h11.trans (h12.mono h11.size)).mono h10.size)).mono h9.size)).mono h8.size)).mono h7.size)).mono h6.size)).mono h5.size))).mono (Below.size (h5.trans ((h6.trans ((h7.trans ((h8.trans ((h9.trans ((h10.trans ((h11.trans (h12.mono h11.size)).mono h10.size)).mono h9.size)).mono h8.size)).mono h7.size)).mono h6.size)).mono h5.size)))) l4).mono ?_); rintro e w13 ⟨rfl, h13⟩)))
        go_ret
        exact ⟨ret_bool (by first | rfl | (simp; done) | (simp; omega)), (h1.trans ((h2.trans ((h3.trans ((h4.trans ((h5.trans ((h6.trans ((h7.trans ((h8.trans ((h9.trans ((h10.trans ((h11.trans ((h12.trans (h13.mono h12.size)).mono h11.size)).mono h10.size)).mono h9.size)).mono h8.size)).mono h7.size)).mono h6.size)).mono h5.size)).mono h4.size)).mono h3.size)).mono h2.size)).mono h1.size))⟩
      · have HIn : Hid (conB La other = false) := Lib.hid hin
        have HTv : Hid ((conB La other && decide (other < day)) = false) := Lib.hid (by rw [hin]; simp; try omega)
        have HXv : Hid ((decide (0 ≤ other ∧ other ≤ 1048576) && (decide (day ≤ other) || conB La other)) = false) := Lib.hid (by rw [hin]; simp; try omega)
        clear hin
        go_enter Tryd.func5, Tryd.ntmps5
        go_wp2_with (first
          | (go_at_call 9; ((with_reducible refine (awake_c _ ht).mono ?_); rintro e w1 ⟨rfl, h1⟩))
          | (go_at_call 10; ((with_reducible refine (few1 _ _ _ _ (by omega)).mono ?_); rw [HDec.out]; rintro e w2 ⟨rfl, h2⟩))
          | (go_at_call 27; ((with_reducible refine (truncate_c _ _ _ _ _ day ((Za.out.below (h1.trans (h2.mono h1.size))).mono (Below.size (h1.trans (h2.mono h1.size)))) la).mono ?_); rintro e w3 ⟨⟨A3, n3, c3, rfl, z3, i3, l3⟩, h3⟩; have Z3 := Lib.hid z3; have I3 := Lib.hid i3; clear z3 i3))
          | (go_at_call 28; ((with_reducible refine (extend_c _ _ _ _ _ day ((Za.out.below (h1.trans ((h2.trans (h3.mono h2.size)).mono h1.size))).mono (Below.size (h1.trans ((h2.trans (h3.mono h2.size)).mono h1.size)))) la).mono ?_); rintro e w4 ⟨⟨A4, n4, c4, rfl, z4, i4, l4⟩, h4⟩; have Z4 := Lib.hid z4; have I4 := Lib.hid i4; clear z4 i4))
          | (go_at_call 29; ((with_reducible refine (until_c _ _ _ _ _ day ((Za.out.below (h1.trans ((h2.trans ((h3.trans (h4.mono h3.size)).mono h2.size)).mono h1.size))).mono (Below.size (h1.trans ((h2.trans ((h3.trans (h4.mono h3.size)).mono h2.size)).mono h1.size)))) (by omega) xa).mono ?_); rintro e w5 ⟨⟨A5, n5, c5, rfl, z5, i5, l5, x5⟩, h5⟩; have Z5 := Lib.hid z5; have I5 := Lib.hid i5; clear z5 i5))
          | (go_at_call 13; ((with_reducible refine (same_c _ _ _ _ _ _ _ _ _ rfl ((Z3.out.below (h4.trans (h5.mono h4.size))).mono (Below.size (h4.trans (h5.mono h4.size)))) Z5.out l3 (by omega)).mono ?_); rintro e w6 ⟨rfl, h6⟩))
          | (go_at_call 30; ((with_reducible refine (since_c _ _ _ _ _ day ((Za.out.below (h1.trans ((h2.trans ((h3.trans ((h4.trans ((h5.trans (h6.mono h5.size)).mono h4.size)).mono h3.size)).mono h2.size)).mono h1.size))).mono (Below.size (h1.trans ((h2.trans ((h3.trans ((h4.trans ((h5.trans (h6.mono h5.size)).mono h4.size)).mono h3.size)).mono h2.size)).mono h1.size)))) (by omega) xa).mono ?_); rintro e w7 ⟨⟨A7, n7, c7, rfl, z7, i7, l7, x7⟩, h7⟩; have Z7 := Lib.hid z7; have I7 := Lib.hid i7; clear z7 i7))
          | (go_at_call 13; ((with_reducible refine (same_c _ _ _ _ _ _ _ _ _ rfl ((Z4.out.below (h5.trans ((h6.trans (h7.mono h6.size)).mono h5.size))).mono (Below.size (h5.trans ((h6.trans (h7.mono h6.size)).mono h5.size)))) Z7.out l4 (by omega)).mono ?_); rintro e w8 ⟨rfl, h8⟩))
          | (go_at_call 11; ((with_reducible refine (validK_c _ _ _ _ _ I3.out (len_le Z5.out l5 (by omega)) ((Z3.out.below (h4.trans ((h5.trans ((h6.trans ((h7.trans (h8.mono h7.size)).mono h6.size)).mono h5.size)).mono h4.size))).mono (Below.size (h4.trans ((h5.trans ((h6.trans ((h7.trans (h8.mono h7.size)).mono h6.size)).mono h5.size)).mono h4.size)))) l3).mono ?_); rintro e w9 ⟨rfl, h9⟩))
          | (go_at_call 11; ((with_reducible refine (validK_c _ _ _ _ _ I4.out (len_le Z7.out l7 (by omega)) ((Z4.out.below (h5.trans ((h6.trans ((h7.trans ((h8.trans (h9.mono h8.size)).mono h7.size)).mono h6.size)).mono h5.size))).mono (Below.size (h5.trans ((h6.trans ((h7.trans ((h8.trans (h9.mono h8.size)).mono h7.size)).mono h6.size)).mono h5.size)))) l4).mono ?_); rintro e w10 ⟨rfl, h10⟩))
          | (go_at_call 16; ((with_reducible refine (containsV_c _ _ _ _ other _ _ HIn.out ((Za.out.below (h1.trans ((h2.trans ((h3.trans ((h4.trans ((h5.trans ((h6.trans ((h7.trans ((h8.trans ((h9.trans (h10.mono h9.size)).mono h8.size)).mono h7.size)).mono h6.size)).mono h5.size)).mono h4.size)).mono h3.size)).mono h2.size)).mono h1.size))).mono (Below.size (h1.trans ((h2.trans ((h3.trans ((h4.trans ((h5.trans ((h6.trans ((h7.trans ((h8.trans ((h9.trans (h10.mono h9.size)).mono h8.size)).mono h7.size)).mono h6.size)).mono h5.size)).mono h4.size)).mono h3.size)).mono h2.size)).mono h1.size)))) la).mono ?_); rintro e w11 ⟨rfl, h11⟩))
          | (go_at_call 16; ((with_reducible refine (containsV_c _ _ _ _ other _ _ ((valT I3.out other).trans HTv.out) ((Z3.out.below (h4.trans ((h5.trans ((h6.trans ((h7.trans ((h8.trans ((h9.trans ((h10.trans (h11.mono h10.size)).mono h9.size)).mono h8.size)).mono h7.size)).mono h6.size)).mono h5.size)).mono h4.size))).mono (Below.size (h4.trans ((h5.trans ((h6.trans ((h7.trans ((h8.trans ((h9.trans ((h10.trans (h11.mono h10.size)).mono h9.size)).mono h8.size)).mono h7.size)).mono h6.size)).mono h5.size)).mono h4.size)))) l3).mono ?_); rintro e w12 ⟨rfl, h12⟩))
          | (go_at_call 16; ((with_reducible refine (containsV_c _ _ _ _ other _ _ ((valX I4.out other).trans HXv.out) ((Z4.out.below (h5.trans ((h6.trans ((h7.trans ((h8.trans ((h9.trans ((h10.trans ((h11.trans (h12.mono h11.size)).mono h10.size)).mono h9.size)).mono h8.size)).mono h7.size)).mono h6.size)).mono h5.size))).mono (Below.size (h5.trans ((h6.trans ((h7.trans ((h8.trans ((h9.trans ((h10.trans ((h11.trans (h12.mono h11.size)).mono h10.size)).mono h9.size)).mono h8.size)).mono h7.size)).mono h6.size)).mono h5.size)))) l4).mono ?_); rintro e w13 ⟨rfl, h13⟩)))
        go_ret
        exact ⟨ret_bool (by first | rfl | (simp; done) | (simp; omega)), (h1.trans ((h2.trans ((h3.trans ((h4.trans ((h5.trans ((h6.trans ((h7.trans ((h8.trans ((h9.trans ((h10.trans ((h11.trans ((h12.trans (h13.mono h12.size)).mono h11.size)).mono h10.size)).mono h9.size)).mono h8.size)).mono h7.size)).mono h6.size)).mono h5.size)).mono h4.size)).mono h3.size)).mono h2.size)).mono h1.size))⟩
  · have hdec : decide ((N : Int) ≤ 60) = false := by simpa using h60
    have HDec := Lib.hid hdec
    clear hdec za
    go_enter Tryd.func5, Tryd.ntmps5
    go_wp2_with (first
      | (go_at_call 9; ((with_reducible refine (awake_c _ ht).mono ?_); rintro e w1 ⟨rfl, h1⟩))
      | (go_at_call 10; ((with_reducible refine (few1 _ _ _ _ (by omega)).mono ?_); rw [HDec.out]; rintro e w2 ⟨rfl, h2⟩)))
    go_ret
    exact ⟨rfl, h1.trans (h2.mono h1.size)⟩
end Go.Proofs.YtkiafejjcchofaaDoor
