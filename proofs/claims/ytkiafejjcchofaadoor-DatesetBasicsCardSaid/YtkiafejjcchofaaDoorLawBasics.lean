/-
  The walk of the law DatesetBasics.
-/
import Derived.Test.YtkiafejjcchofaaDoorEnds
import Derived.Test.YtkiafejjcchofaaDoorLawSplits
import Derived.Test.YtkiafejjcchofaaDoorCount
namespace Go.Proofs.YtkiafejjcchofaaDoor
open Go.RowKit (wrap32 wrap64 intOf Hid Below)
open Spans

section
variable (La : List Sp) (N ca : Nat) (Aa : Option Addr) (w : World)
theorem validV_c (v : Bool) (hv : validB La = v) (hza : SpansAt w.heap.size w Aa N La) (hN : N ≤ 2000000) :
    Calls Tryd.prog 11 #[.slice Aa N ca] w fun e w' => e = .returned (.bool v) ∧ Below w.heap.size w w' := by
  subst hv
  exact valid_any La N ca Aa w hza (by unfold maxLen; omega)
theorem mayV_c (v : Bool) (hv : validB La = v) (hza : SpansAt w.heap.size w Aa N La) (hN : N ≤ 2000000) :
    Calls Tryd.prog 12 #[.slice Aa N ca] w fun e w' => e = .returned (.bool v) ∧ Below w.heap.size w w' := by
  subst hv
  exact may_any La N ca Aa w hza hN
theorem rsizeV_c (x : Int) (hx : sizeS (canon (memB La)) = x) (hza : SpansAt w.heap.size w Aa N La) (hN : N ≤ 5000) (hna : Aa = none → ca = 0) :
    Calls Tryd.prog 19 #[.slice Aa N ca] w fun e w' => e = .returned (.int .i64 x) ∧ Below w.heap.size w w' := by
  subst hx
  exact rsize_any La N ca Aa w hza hN hna
end
theorem hasV_c (La : List Sp) (N ca : Nat) (Aa : Option Addr) (d : Int) (w : World) (v : Bool) (hv : conB La d = v) (hza : SpansAt w.heap.size w Aa N La) (hN : N ≤ 2000000) :
    Calls Tryd.prog 17 #[.slice Aa N ca, .int .i64 d] w fun e w' => e = .returned (.bool v) ∧ Below w.heap.size w w' := by
  subst hv
  exact (has_any La w.heap.size N ca Aa d w hza hN).mono fun _ _ ⟨he, hw⟩ => ⟨he, by rw [hw]; exact Below.refl _ _⟩
theorem intsV_c (zs : List Int) (N M ca cb : Nat) (Aa Ab : Option Addr) (w : World) (hza : IntsAt w.heap.size w Aa N zs) (hzb : IntsAt w.heap.size w Ab M zs) (hN : N ≤ 5000000) (hM : M ≤ 5000000) :
    Calls Tryd.prog 20 #[.slice Aa N ca, .slice Ab M cb] w fun e w' => e = .returned (.bool true) ∧ Below w.heap.size w w' :=
  (ints_any zs zs w.heap.size N M ca cb Aa Ab w hza hzb hN hM rfl).mono fun _ _ ⟨he, hq⟩ => ⟨he, below_drawn' (Below.refl _ _) hq⟩

set_option maxHeartbeats 8000000 in
set_option maxRecDepth 1000000 in
theorem lawBasics (La : List Sp) (Aa : Option Addr) (N ca : Nat) (day : Int) (w : World) (ht : Tab w)
    (za : SpansAt w.heap.size w Aa N La) (ka : N ≤ 8796093022207) (xa : Aa = none → ca = 0) (_ : -9223372036854775808 ≤ day ∧ day ≤ 9223372036854775807) :
    Calls Tryd.prog 3 #[.slice Aa N ca, .int .i64 day] w fun e w' => e = .returned (.bool true) ∧ Below w.heap.size w w' := by
  by_cases h60 : (N : Int) ≤ 60
  · have la : N ≤ 2000000 := by omega
    have Za := Lib.hid za
    clear za
    have hdec : decide ((N : Int) ≤ 60) = true := by simpa using h60
    have HDec := Lib.hid hdec
    clear hdec
    obtain ⟨S, hS⟩ : ∃ x, sizeS (canon (memB La)) = x := ⟨_, rfl⟩
    have HS := Lib.hid hS
    clear hS
    cases hv : validB La <;> cases hc : conB La day
    all_goals
      have HV := Lib.hid hv
      have HC := Lib.hid hc
      clear hv hc
      go_enter Tryd.func3, Tryd.ntmps3
      go_wp2_with (first
        | (go_at_call 9; ((with_reducible refine (awake_c _ ht).mono ?_); rintro e w1 ⟨rfl, h1⟩))
        | (go_at_call 10; ((with_reducible refine (few1 _ _ _ _ (by omega)).mono ?_); rw [HDec.out]; rintro e w2 ⟨rfl, h2⟩))
        | (go_at_call 11; ((with_reducible refine (validV_c _ _ _ _ _ _ HV.out ((Za.out.below (h1.trans (h2.mono h1.size))).mono (Below.size (h1.trans (h2.mono h1.size)))) la).mono ?_); rintro e w3 ⟨rfl, h3⟩))
        | (go_at_call 12; ((with_reducible refine (mayV_c _ _ _ _ _ _ HV.out ((Za.out.below (h1.trans ((h2.trans (h3.mono h2.size)).mono h1.size))).mono (Below.size (h1.trans ((h2.trans (h3.mono h2.size)).mono h1.size)))) la).mono ?_); rintro e w4 ⟨rfl, h4⟩))
        | (go_at_call 14; ((with_reducible refine (norm_c _ _ _ _ _ ((Za.out.below (h1.trans ((h2.trans ((h3.trans (h4.mono h3.size)).mono h2.size)).mono h1.size))).mono (Below.size (h1.trans ((h2.trans ((h3.trans (h4.mono h3.size)).mono h2.size)).mono h1.size)))) la).mono ?_); rintro e w5 ⟨⟨A5, n5, c5, rfl, z5, i5, l5⟩, h5⟩; have Z5 := Lib.hid z5; have I5 := Lib.hid i5; clear z5 i5))
        | (go_at_call 15; ((with_reducible refine (of_c _ _ _ _ _ ((Za.out.below (h1.trans ((h2.trans ((h3.trans ((h4.trans (h5.mono h4.size)).mono h3.size)).mono h2.size)).mono h1.size))).mono (Below.size (h1.trans ((h2.trans ((h3.trans ((h4.trans (h5.mono h4.size)).mono h3.size)).mono h2.size)).mono h1.size)))) (by omega) xa).mono ?_); rintro e w6 ⟨⟨A6, n6, c6, rfl, z6, i6, l6, x6⟩, h6⟩; have Z6 := Lib.hid z6; have I6 := Lib.hid i6; clear z6 i6))
        | (go_at_call 13; ((with_reducible refine (same_c _ _ _ _ _ _ _ _ _ rfl ((Z5.out.below h6).mono (Below.size h6)) Z6.out l5 (by omega)).mono ?_); rintro e w7 ⟨rfl, h7⟩))
        | (go_at_call 16; ((with_reducible refine (containsV_c _ _ _ _ day _ _ HC.out ((Za.out.below (h1.trans ((h2.trans ((h3.trans ((h4.trans ((h5.trans ((h6.trans (h7.mono h6.size)).mono h5.size)).mono h4.size)).mono h3.size)).mono h2.size)).mono h1.size))).mono (Below.size (h1.trans ((h2.trans ((h3.trans ((h4.trans ((h5.trans ((h6.trans (h7.mono h6.size)).mono h5.size)).mono h4.size)).mono h3.size)).mono h2.size)).mono h1.size)))) la).mono ?_); rintro e w8 ⟨rfl, h8⟩))
        | (go_at_call 17; ((with_reducible refine (hasV_c _ _ _ _ day _ _ HC.out ((Za.out.below (h1.trans ((h2.trans ((h3.trans ((h4.trans ((h5.trans ((h6.trans ((h7.trans (h8.mono h7.size)).mono h6.size)).mono h5.size)).mono h4.size)).mono h3.size)).mono h2.size)).mono h1.size))).mono (Below.size (h1.trans ((h2.trans ((h3.trans ((h4.trans ((h5.trans ((h6.trans ((h7.trans (h8.mono h7.size)).mono h6.size)).mono h5.size)).mono h4.size)).mono h3.size)).mono h2.size)).mono h1.size)))) la).mono ?_); rintro e w9 ⟨rfl, h9⟩))
        | (go_at_call 18; ((with_reducible refine (sizeL_c _ _ _ _ _ _ HS.out ((Za.out.below (h1.trans ((h2.trans ((h3.trans ((h4.trans ((h5.trans ((h6.trans ((h7.trans ((h8.trans (h9.mono h8.size)).mono h7.size)).mono h6.size)).mono h5.size)).mono h4.size)).mono h3.size)).mono h2.size)).mono h1.size))).mono (Below.size (h1.trans ((h2.trans ((h3.trans ((h4.trans ((h5.trans ((h6.trans ((h7.trans ((h8.trans (h9.mono h8.size)).mono h7.size)).mono h6.size)).mono h5.size)).mono h4.size)).mono h3.size)).mono h2.size)).mono h1.size)))) la).mono ?_); rintro e w10 ⟨rfl, h10⟩))
        | (go_at_call 19; ((with_reducible refine (rsizeV_c _ _ _ _ _ _ HS.out ((Za.out.below (h1.trans ((h2.trans ((h3.trans ((h4.trans ((h5.trans ((h6.trans ((h7.trans ((h8.trans ((h9.trans (h10.mono h9.size)).mono h8.size)).mono h7.size)).mono h6.size)).mono h5.size)).mono h4.size)).mono h3.size)).mono h2.size)).mono h1.size))).mono (Below.size (h1.trans ((h2.trans ((h3.trans ((h4.trans ((h5.trans ((h6.trans ((h7.trans ((h8.trans ((h9.trans (h10.mono h9.size)).mono h8.size)).mono h7.size)).mono h6.size)).mono h5.size)).mono h4.size)).mono h3.size)).mono h2.size)).mono h1.size)))) (by omega) xa).mono ?_); rintro e w11 ⟨rfl, h11⟩))
        | (go_at_call 21; ((with_reducible refine (bounds_c _ _ _ _ _ ((Za.out.below (h1.trans ((h2.trans ((h3.trans ((h4.trans ((h5.trans ((h6.trans ((h7.trans ((h8.trans ((h9.trans ((h10.trans (h11.mono h10.size)).mono h9.size)).mono h8.size)).mono h7.size)).mono h6.size)).mono h5.size)).mono h4.size)).mono h3.size)).mono h2.size)).mono h1.size))).mono (Below.size (h1.trans ((h2.trans ((h3.trans ((h4.trans ((h5.trans ((h6.trans ((h7.trans ((h8.trans ((h9.trans ((h10.trans (h11.mono h10.size)).mono h9.size)).mono h8.size)).mono h7.size)).mono h6.size)).mono h5.size)).mono h4.size)).mono h3.size)).mono h2.size)).mono h1.size)))) la).mono ?_); rintro e w12 ⟨⟨A12, n12, c12, rfl, z12, l12⟩, h12⟩; have Z12 := Lib.hid z12; clear z12))
        | (go_at_call 22; ((with_reducible refine (ends_any _ _ _ _ _ ((Za.out.below (h1.trans ((h2.trans ((h3.trans ((h4.trans ((h5.trans ((h6.trans ((h7.trans ((h8.trans ((h9.trans ((h10.trans ((h11.trans (h12.mono h11.size)).mono h10.size)).mono h9.size)).mono h8.size)).mono h7.size)).mono h6.size)).mono h5.size)).mono h4.size)).mono h3.size)).mono h2.size)).mono h1.size))).mono (Below.size (h1.trans ((h2.trans ((h3.trans ((h4.trans ((h5.trans ((h6.trans ((h7.trans ((h8.trans ((h9.trans ((h10.trans ((h11.trans (h12.mono h11.size)).mono h10.size)).mono h9.size)).mono h8.size)).mono h7.size)).mono h6.size)).mono h5.size)).mono h4.size)).mono h3.size)).mono h2.size)).mono h1.size)))) (by omega) xa).mono ?_); rintro e w13 ⟨⟨A13, n13, c13, rfl, z13, l13⟩, h13⟩; have Z13 := Lib.hid z13; clear z13))
        | (go_at_call 20; ((with_reducible refine (intsV_c _ _ _ _ _ _ _ _ ((Z12.out.below h13).mono (Below.size h13)) Z13.out (by omega) (by omega)).mono ?_); rintro e w14 ⟨rfl, h14⟩)))
      go_ret
      exact ⟨rfl, (h1.trans ((h2.trans ((h3.trans ((h4.trans ((h5.trans ((h6.trans ((h7.trans ((h8.trans ((h9.trans ((h10.trans ((h11.trans ((h12.trans ((h13.trans (h14.mono h13.size)).mono h12.size)).mono h11.size)).mono h10.size)).mono h9.size)).mono h8.size)).mono h7.size)).mono h6.size)).mono h5.size)).mono h4.size)).mono h3.size)).mono h2.size)).mono h1.size))⟩
  · have hdec : decide ((N : Int) ≤ 60) = false := by simpa using h60
    have HDec := Lib.hid hdec
    clear hdec za
    go_enter Tryd.func3, Tryd.ntmps3
    go_wp2_with (first
      | (go_at_call 9; ((with_reducible refine (awake_c _ ht).mono ?_); rintro e w1 ⟨rfl, h1⟩))
      | (go_at_call 10; ((with_reducible refine (few1 _ _ _ _ (by omega)).mono ?_); rw [HDec.out]; rintro e w2 ⟨rfl, h2⟩)))
    go_ret
    exact ⟨rfl, h1.trans (h2.mono h1.size)⟩
end Go.Proofs.YtkiafejjcchofaaDoor
