/-
  Contracts of the reference's Start and At and of the program's AddYears and Add, and the year of a day as one number.
-/
import Derived.Test.YtagapapnpefckaaDoorText
namespace Go.Proofs.YtagapapnpefckaaDoor
open Go.RowKit (wrap32 wrap64 intOf Hid Below)
open Cal

/-- Every day lies in a year. -/
theorem year_exists : ∀ k : Nat, ∃ y : Int, 1900 ≤ y ∧ fy y ≤ k ∧ (k : Int) < fy (y + 1)
  | 0 => ⟨1900, by omega, by rw [fy_1900]; omega, by decide⟩
  | k + 1 => by
    obtain ⟨y, h0, h1, h2⟩ := year_exists k
    by_cases h : ((k + 1 : Nat) : Int) < fy (y + 1)
    · exact ⟨y, h0, by omega, h⟩
    · exact ⟨y + 1, by omega, by omega, by have := fy_lt (y + 1) (y + 1 + 1) (by omega); omega⟩
theorem year_of (d : Int) (h : 0 ≤ d) : ∃ y : Int, 1900 ≤ y ∧ fy y ≤ d ∧ d < fy (y + 1) := by
  obtain ⟨y, h0, h1, h2⟩ := year_exists d.toNat
  exact ⟨y, h0, by omega, by omega⟩

theorem yearDay_at (d Y : Int) (w : World) (h1 : d ≤ 1048576) (hY : 1900 ≤ Y) (hl : fy Y ≤ d) (hr : d < fy (Y + 1)) :
    Calls Tryd.prog 10 #[.int .i64 d] w fun e w' => e = .returned (.tuple #[.int .i64 Y, .int .i64 (d - fy Y + 1)]) ∧ w' = w :=
  (yearDay_yes d w (by have := fy_nonneg Y hY; omega) h1).mono fun e w' ⟨⟨y, h0, h2, h3, he⟩, hw⟩ => ⟨by rw [he, fy_unique y Y d h2 h3 hl hr], hw⟩
theorem year_at (d Y : Int) (w : World) (h1 : d ≤ 1048576) (hY : 1900 ≤ Y) (hl : fy Y ≤ d) (hr : d < fy (Y + 1)) :
    Calls Tryd.prog 16 #[.int .i64 d] w fun e w' => e = .returned (.tuple #[.int .i64 Y, .int .i64 (d - fy Y + 1)]) ∧ w' = w :=
  (year_any d w (by have := fy_nonneg Y hY; omega) h1).mono fun e w' ⟨⟨y, h0, h2, h3, he⟩, hw⟩ => ⟨by rw [he, fy_unique y Y d h2 h3 hl hr], hw⟩

theorem startB_no {y : Int} (h : startB y = false) (h0 : 1900 ≤ y) : 1048576 < fy y := by
  simp [startB] at h; omega
theorem startB_mk {y : Int} (h0 : 1900 ≤ y) (h1 : fy y ≤ 1048576) : startB y = true := by simp [startB, h0, h1]
theorem startB_low {y : Int} (h0 : y < 1900) : startB y = false := by simp [startB]; omega
theorem startB_high {y : Int} (h0 : 5000 < y) : startB y = false := by
  have := fy_le 5000 y (by omega); have := fy_5000; simp [startB]; omega

set_option maxHeartbeats 400000 in
theorem refStart_no (y : Int) (w : World) (hb : startB y = false) :
    Calls Tryd.prog 12 #[.int .i64 y] w fun e w' => e = .returned (.tuple #[.int .i64 0, .bool false]) ∧ w' = w := by
  have HB := Lib.hid hb
  clear hb
  by_cases h0 : y < 1900
  · go_enter Tryd.func12, Tryd.ntmps12
    go_wp2
    go_ret2
    exact ⟨rfl, rfl⟩
  · by_cases h1 : 5000 < y
    · go_enter Tryd.func12, Tryd.ntmps12
      go_wp2
      go_ret2
      exact ⟨rfl, rfl⟩
    · have hf := startB_no HB.out (by omega)
      go_enter Tryd.func12, Tryd.ntmps12
      go_wp2_with (first
        | (go_at_call 29; refine (first_any _ _ (by omega) (by omega)).mono ?_; rintro e w' ⟨rfl, rfl⟩)
        | (go_at_call 15; refine (is_no _ _ (by omega)).mono ?_; rintro e w' ⟨rfl, rfl⟩))
      go_ret2
      exact ⟨rfl, rfl⟩
set_option maxHeartbeats 400000 in
theorem refStart_yes (y : Int) (w : World) (hb : startB y = true) :
    Calls Tryd.prog 12 #[.int .i64 y] w fun e w' => e = .returned (.tuple #[.int .i64 (fy y), .bool true]) ∧ w' = w := by
  obtain ⟨h0, h1, h2, h3⟩ := startB_le hb
  clear hb
  go_enter Tryd.func12, Tryd.ntmps12
  go_wp2_with (first
    | (go_at_call 29; refine (first_any _ _ (by omega) (by omega)).mono ?_; rintro e w' ⟨rfl, rfl⟩)
    | (go_at_call 15; refine (is_yes _ _ (by omega) (by omega)).mono ?_; rintro e w' ⟨rfl, rfl⟩))
  go_ret2
  exact ⟨rfl, rfl⟩
theorem start_yes (y : Int) (w : World) (hb : startB y = true) :
    Calls Tryd.prog 11 #[.int .i64 y] w fun e w' => e = .returned (.tuple #[.int .i64 (fy y), .bool true]) ∧ w' = w :=
  (yearStart_any y w (by have := startB_le hb; omega)).mono fun e w' ⟨he, hw⟩ => ⟨by rw [he]; simp [startI, hb], hw⟩
theorem start_no (y : Int) (w : World) (hy : y ≤ 9223372036854775807) (hb : startB y = false) :
    Calls Tryd.prog 11 #[.int .i64 y] w fun e w' => e = .returned (.tuple #[.int .i64 0, .bool false]) ∧ w' = w :=
  (yearStart_any y w hy).mono fun e w' ⟨he, hw⟩ => ⟨by rw [he]; simp [startI, hb], hw⟩

set_option maxHeartbeats 400000 in
/-- The law DateYears. -/
theorem lawYears (d y : Int) (w : World) (ht : Tab w) (_ : -9223372036854775808 ≤ d ∧ d ≤ 9223372036854775807) (hy : -9223372036854775808 ≤ y ∧ y ≤ 9223372036854775807) :
    Calls Tryd.prog 3 #[.int .i64 d, .int .i64 y] w fun e w' => e = .returned (.bool true) ∧ Below w.heap.size w w' := by
  have HL : Hid (∀ W, Calls Tryd.prog 13 #[.int .i64 y] W fun e w' => e = .returned (.bool (leapB y)) ∧ w' = W) := Lib.hid (isLeap_any y)
  have HM : Hid (∀ W, Calls Tryd.prog 14 #[.int .i64 y] W fun e w' => e = .returned (.bool (leapB y)) ∧ w' = W) := Lib.hid (long_any y)
  generalize leapB y = lb at HL HM
  obtain ⟨n, b, HS, HT⟩ : ∃ (n : Int) (b : Bool), Hid (∀ W, Calls Tryd.prog 11 #[.int .i64 y] W fun e w' => e = .returned (.tuple #[.int .i64 n, .bool b]) ∧ w' = W) ∧ Hid (∀ W, Calls Tryd.prog 12 #[.int .i64 y] W fun e w' => e = .returned (.tuple #[.int .i64 n, .bool b]) ∧ w' = W) := by
    cases hb : startB y
    · exact ⟨0, false, Lib.hid fun W => start_no y W hy.2 hb, Lib.hid fun W => refStart_no y W hb⟩
    · exact ⟨fy y, true, Lib.hid fun W => start_yes y W hb, Lib.hid fun W => refStart_yes y W hb⟩
  by_cases hd : 0 ≤ d ∧ d ≤ 1048576
  · obtain ⟨h0, h1⟩ := hd
    obtain ⟨Y, hY, hl, hr⟩ := year_of d h0
    have hY2 := year_lt hl h1
    have hm := of_le hY hr
    have hn := fy_nonneg Y hY
    have HB := Lib.hid (startB_mk hY (by omega : fy Y ≤ 1048576))
    cases lb <;> cases b
    all_goals
      go_enter Tryd.func3, Tryd.ntmps3
      go_wp2_with (first
        | (go_at_call 9; refine (awake_any _ ht).mono ?_; rintro e w' ⟨rfl, hb⟩)
        | (go_at_call 10; refine (yearDay_at _ Y _ h1 hY hl hr).mono ?_; rintro e w' ⟨rfl, rfl⟩)
        | (go_at_call 11; ((with_reducible refine (HS.out _).mono ?_); rintro e w' ⟨rfl, rfl⟩))
        | (go_at_call 11; ((with_reducible refine (start_yes Y _ HB.out).mono ?_); rintro e w' ⟨rfl, rfl⟩))
        | (go_at_call 12; refine (HT.out _).mono ?_; rintro e w' ⟨rfl, rfl⟩)
        | (go_at_call 13; refine (HL.out _).mono ?_; rintro e w' ⟨rfl, rfl⟩)
        | (go_at_call 14; refine (HM.out _).mono ?_; rintro e w' ⟨rfl, rfl⟩)
        | (go_at_call 15; refine (is_yes _ _ h0 h1).mono ?_; rintro e w' ⟨rfl, rfl⟩)
        | (go_at_call 16; refine (year_at _ Y _ h1 hY hl hr).mono ?_; rintro e w' ⟨rfl, rfl⟩))
      go_ret
      exact ⟨ret_bool (show (fy Y + (d - fy Y + 1) - 1 == d) = true by rw [beq_iff_eq]; omega), by assumption⟩
  · have hn : d < 0 ∨ 1048576 < d := by omega
    clear hd
    cases lb <;> cases b
    all_goals
      go_enter Tryd.func3, Tryd.ntmps3
      go_wp2_with (first
        | (go_at_call 9; refine (awake_any _ ht).mono ?_; rintro e w' ⟨rfl, hb⟩)
        | (go_at_call 10; refine (yearDay_no _ _ hn).mono ?_; rintro e w' ⟨rfl, rfl⟩)
        | (go_at_call 11; refine (HS.out _).mono ?_; rintro e w' ⟨rfl, rfl⟩)
        | (go_at_call 12; refine (HT.out _).mono ?_; rintro e w' ⟨rfl, rfl⟩)
        | (go_at_call 13; refine (HL.out _).mono ?_; rintro e w' ⟨rfl, rfl⟩)
        | (go_at_call 14; refine (HM.out _).mono ?_; rintro e w' ⟨rfl, rfl⟩)
        | (go_at_call 15; refine (is_no _ _ hn).mono ?_; rintro e w' ⟨rfl, rfl⟩))
      go_ret
      exact ⟨rfl, by assumption⟩
end Go.Proofs.YtagapapnpefckaaDoor
