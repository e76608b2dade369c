/-
  The walk of the law DatesetOperations.
-/
import Derived.Test.YtkiafejjcchofaaDoorRefD
namespace Go.Proofs.YtkiafejjcchofaaDoor
open Go.RowKit (wrap32 wrap64 intOf Hid Below)
open Spans

set_option maxHeartbeats 8000000 in
set_option maxRecDepth 1000000 in
theorem lawOps (La : List Sp) (Aa : Option Addr) (N ca : Nat) (Lb : List Sp) (Ab : Option Addr) (M cb : Nat) (w : World) (ht : Tab w)
    (za : SpansAt w.heap.size w Aa N La) (ka : N ≤ 8796093022207) (xa : Aa = none → ca = 0) (zb : SpansAt w.heap.size w Ab M Lb) (kb : M ≤ 8796093022207) (xb : Ab = none → cb = 0) :
    Calls Tryd.prog 4 #[.slice Aa N ca, .slice Ab M cb] w fun e w' => e = .returned (.bool true) ∧ Below w.heap.size w w' := by
  by_cases h60 : (N : Int) + M ≤ 60
  · have la : N ≤ 2000000 := by omega
    have lb : M ≤ 2000000 := by omega
    have Za := Lib.hid za
    have Zb := Lib.hid zb
    clear za zb
    have hdec : decide ((N : Int) + M ≤ 60) = true := by simpa using h60
    have HDec := Lib.hid hdec
    clear hdec
    go_enter Tryd.func4, Tryd.ntmps4
    go_wp2_with (first
      | (go_at_call 9; ((with_reducible refine (awake_c _ ht).mono ?_); rintro e w1 ⟨rfl, h1⟩))
      | (go_at_call 10; ((with_reducible refine (few2 _ _ _ _ _ _ _ (by omega) (by omega)).mono ?_); rw [HDec.out]; rintro e w2 ⟨rfl, h2⟩))
      | (go_at_call 23; ((with_reducible refine (union_c _ _ _ _ _ _ _ _ _ ((Za.out.below (h1.trans (h2.mono h1.size))).mono (Below.size (h1.trans (h2.mono h1.size)))) ((Zb.out.below (h1.trans (h2.mono h1.size))).mono (Below.size (h1.trans (h2.mono h1.size)))) la lb).mono ?_); rintro e w3 ⟨⟨A3, n3, c3, rfl, z3, i3, l3⟩, h3⟩; have Z3 := Lib.hid z3; have I3 := Lib.hid i3; clear z3 i3))
      | (go_at_call 24; ((with_reducible refine (join_c _ _ _ _ _ _ _ _ _ ((Za.out.below (h1.trans ((h2.trans (h3.mono h2.size)).mono h1.size))).mono (Below.size (h1.trans ((h2.trans (h3.mono h2.size)).mono h1.size)))) ((Zb.out.below (h1.trans ((h2.trans (h3.mono h2.size)).mono h1.size))).mono (Below.size (h1.trans ((h2.trans (h3.mono h2.size)).mono h1.size)))) (by omega) (by omega) xa xb).mono ?_); rintro e w4 ⟨⟨A4, n4, c4, rfl, z4, i4, l4, x4⟩, h4⟩; have Z4 := Lib.hid z4; have I4 := Lib.hid i4; clear z4 i4))
      | (go_at_call 13; ((with_reducible refine (same_c _ _ _ _ _ _ _ _ _ rfl ((Z3.out.below h4).mono (Below.size h4)) Z4.out l3 (by omega)).mono ?_); rintro e w5 ⟨rfl, h5⟩))
      | (go_at_call 25; ((with_reducible refine (intersect_c _ _ _ _ _ _ _ _ _ ((Za.out.below (h1.trans ((h2.trans ((h3.trans ((h4.trans (h5.mono h4.size)).mono h3.size)).mono h2.size)).mono h1.size))).mono (Below.size (h1.trans ((h2.trans ((h3.trans ((h4.trans (h5.mono h4.size)).mono h3.size)).mono h2.size)).mono h1.size)))) ((Zb.out.below (h1.trans ((h2.trans ((h3.trans ((h4.trans (h5.mono h4.size)).mono h3.size)).mono h2.size)).mono h1.size))).mono (Below.size (h1.trans ((h2.trans ((h3.trans ((h4.trans (h5.mono h4.size)).mono h3.size)).mono h2.size)).mono h1.size)))) la lb).mono ?_); rintro e w6 ⟨⟨A6, n6, c6, rfl, z6, i6, l6⟩, h6⟩; have Z6 := Lib.hid z6; have I6 := Lib.hid i6; clear z6 i6))
      | (go_at_call 24; ((with_reducible refine (meet_c _ _ _ _ _ _ _ _ _ ((Za.out.below (h1.trans ((h2.trans ((h3.trans ((h4.trans ((h5.trans (h6.mono h5.size)).mono h4.size)).mono h3.size)).mono h2.size)).mono h1.size))).mono (Below.size (h1.trans ((h2.trans ((h3.trans ((h4.trans ((h5.trans (h6.mono h5.size)).mono h4.size)).mono h3.size)).mono h2.size)).mono h1.size)))) ((Zb.out.below (h1.trans ((h2.trans ((h3.trans ((h4.trans ((h5.trans (h6.mono h5.size)).mono h4.size)).mono h3.size)).mono h2.size)).mono h1.size))).mono (Below.size (h1.trans ((h2.trans ((h3.trans ((h4.trans ((h5.trans (h6.mono h5.size)).mono h4.size)).mono h3.size)).mono h2.size)).mono h1.size)))) (by omega) (by omega) xa xb).mono ?_); rintro e w7 ⟨⟨A7, n7, c7, rfl, z7, i7, l7, x7⟩, h7⟩; have Z7 := Lib.hid z7; have I7 := Lib.hid i7; clear z7 i7))
      | (go_at_call 13; ((with_reducible refine (same_c _ _ _ _ _ _ _ _ _ rfl ((Z6.out.below h7).mono (Below.size h7)) Z7.out l6 (by omega)).mono ?_); rintro e w8 ⟨rfl, h8⟩))
      | (go_at_call 26; ((with_reducible refine (subtract_c _ _ _ _ _ _ _ _ _ ((Za.out.below (h1.trans ((h2.trans ((h3.trans ((h4.trans ((h5.trans ((h6.trans ((h7.trans (h8.mono h7.size)).mono h6.size)).mono h5.size)).mono h4.size)).mono h3.size)).mono h2.size)).mono h1.size))).mono (Below.size (h1.trans ((h2.trans ((h3.trans ((h4.trans ((h5.trans ((h6.trans ((h7.trans (h8.mono h7.size)).mono h6.size)).mono h5.size)).mono h4.size)).mono h3.size)).mono h2.size)).mono h1.size)))) ((Zb.out.below (h1.trans ((h2.trans ((h3.trans ((h4.trans ((h5.trans ((h6.trans ((h7.trans (h8.mono h7.size)).mono h6.size)).mono h5.size)).mono h4.size)).mono h3.size)).mono h2.size)).mono h1.size))).mono (Below.size (h1.trans ((h2.trans ((h3.trans ((h4.trans ((h5.trans ((h6.trans ((h7.trans (h8.mono h7.size)).mono h6.size)).mono h5.size)).mono h4.size)).mono h3.size)).mono h2.size)).mono h1.size)))) la lb).mono ?_); rintro e w9 ⟨⟨A9, n9, c9, rfl, z9, i9, l9⟩, h9⟩; have Z9 := Lib.hid z9; have I9 := Lib.hid i9; clear z9 i9))
      | (go_at_call 24; ((with_reducible refine (less_c _ _ _ _ _ _ _ _ _ ((Za.out.below (h1.trans ((h2.trans ((h3.trans ((h4.trans ((h5.trans ((h6.trans ((h7.trans ((h8.trans (h9.mono h8.size)).mono h7.size)).mono h6.size)).mono h5.size)).mono h4.size)).mono h3.size)).mono h2.size)).mono h1.size))).mono (Below.size (h1.trans ((h2.trans ((h3.trans ((h4.trans ((h5.trans ((h6.trans ((h7.trans ((h8.trans (h9.mono h8.size)).mono h7.size)).mono h6.size)).mono h5.size)).mono h4.size)).mono h3.size)).mono h2.size)).mono h1.size)))) ((Zb.out.below (h1.trans ((h2.trans ((h3.trans ((h4.trans ((h5.trans ((h6.trans ((h7.trans ((h8.trans (h9.mono h8.size)).mono h7.size)).mono h6.size)).mono h5.size)).mono h4.size)).mono h3.size)).mono h2.size)).mono h1.size))).mono (Below.size (h1.trans ((h2.trans ((h3.trans ((h4.trans ((h5.trans ((h6.trans ((h7.trans ((h8.trans (h9.mono h8.size)).mono h7.size)).mono h6.size)).mono h5.size)).mono h4.size)).mono h3.size)).mono h2.size)).mono h1.size)))) (by omega) (by omega) xa xb).mono ?_); rintro e w10 ⟨⟨A10, n10, c10, rfl, z10, i10, l10, x10⟩, h10⟩; have Z10 := Lib.hid z10; have I10 := Lib.hid i10; clear z10 i10))
      | (go_at_call 13; ((with_reducible refine (same_c _ _ _ _ _ _ _ _ _ rfl ((Z9.out.below h10).mono (Below.size h10)) Z10.out l9 (by omega)).mono ?_); rintro e w11 ⟨rfl, h11⟩)))
    go_ret
    exact ⟨rfl, (h1.trans ((h2.trans ((h3.trans ((h4.trans ((h5.trans ((h6.trans ((h7.trans ((h8.trans ((h9.trans ((h10.trans (h11.mono h10.size)).mono h9.size)).mono h8.size)).mono h7.size)).mono h6.size)).mono h5.size)).mono h4.size)).mono h3.size)).mono h2.size)).mono h1.size))⟩
  · have hdec : decide ((N : Int) + M ≤ 60) = false := by simpa using h60
    have HDec := Lib.hid hdec
    clear hdec za zb
    go_enter Tryd.func4, Tryd.ntmps4
    go_wp2_with (first
      | (go_at_call 9; ((with_reducible refine (awake_c _ ht).mono ?_); rintro e w1 ⟨rfl, h1⟩))
      | (go_at_call 10; ((with_reducible refine (few2 _ _ _ _ _ _ _ (by omega) (by omega)).mono ?_); rw [HDec.out]; rintro e w2 ⟨rfl, h2⟩)))
    go_ret
    exact ⟨rfl, h1.trans (h2.mono h1.size)⟩
end Go.Proofs.YtkiafejjcchofaaDoor
