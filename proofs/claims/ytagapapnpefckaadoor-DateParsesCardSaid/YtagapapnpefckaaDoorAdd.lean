/-
  Contracts of AddYears and of the reference's Add and At; the law DateAddYears.
-/
import Derived.Test.YtagapapnpefckaaDoorRef
namespace Go.Proofs.YtagapapnpefckaaDoor
open Go.RowKit (wrap32 wrap64 intOf Hid Below)
open Cal

set_option maxHeartbeats 400000 in
theorem addYears_bad (d k : Int) (w : World) (h : (d < 0 ∨ 1048576 < d) ∨ k < -3000 ∨ 3000 < k) :
    Calls Tryd.prog 21 #[.int .i64 d, .int .i64 k] w fun e w' => e = .returned (.tuple #[.int .i64 0, .bool false]) ∧ w' = w := by
  by_cases hd : d < 0 ∨ 1048576 < d
  · clear h
    go_enter Tryd.func21, Tryd.ntmps21
    go_wp2_with (go_at_call 27; refine (isDay_no _ _ hd).mono ?_; rintro e w' ⟨rfl, rfl⟩)
    go_ret2
    exact ⟨rfl, rfl⟩
  · by_cases hk : k < -3000
    · clear h
      go_enter Tryd.func21, Tryd.ntmps21
      go_wp2_with (go_at_call 27; refine (isDay_yes _ _ (by omega) (by omega)).mono ?_; rintro e w' ⟨rfl, rfl⟩)
      go_ret2
      exact ⟨rfl, rfl⟩
    · have hk2 : 3000 < k := by omega
      clear h
      go_enter Tryd.func21, Tryd.ntmps21
      go_wp2_with (go_at_call 27; refine (isDay_yes _ _ (by omega) (by omega)).mono ?_; rintro e w' ⟨rfl, rfl⟩)
      go_ret2
      exact ⟨rfl, rfl⟩

set_option maxHeartbeats 400000 in
theorem addYears_out (d Y k : Int) (w : World) (h1 : d ≤ 1048576) (hY : 1900 ≤ Y) (hl : fy Y ≤ d) (hr : d < fy (Y + 1)) (hk0 : -3000 ≤ k) (hk1 : k ≤ 3000) (hb : startB (Y + k) = false) :
    Calls Tryd.prog 21 #[.int .i64 d, .int .i64 k] w fun e w' => e = .returned (.tuple #[.int .i64 0, .bool false]) ∧ w' = w := by
  have hY2 := year_lt hl h1
  have hn := fy_nonneg Y hY
  have HB := Lib.hid hb
  clear hb
  go_enter Tryd.func21, Tryd.ntmps21
  go_wp2_with (first
    | (go_at_call 27; refine (isDay_yes _ _ (by omega) (by omega)).mono ?_; rintro e w' ⟨rfl, rfl⟩)
    | (go_at_call 10; refine (yearDay_at _ Y _ h1 hY hl hr).mono ?_; rintro e w' ⟨rfl, rfl⟩)
    | (go_at_call 11; refine (start_no (Y + k) _ (by omega) HB.out).mono ?_; rintro e w' ⟨rfl, rfl⟩))
  go_ret2
  exact ⟨rfl, rfl⟩

/-- The day k years later, where that year begins on a day. -/
def addN (d Y k : Int) : Int := fy (Y + k) + min (d - fy Y + 1) (len (Y + k)) - 1
theorem addN_bd (d Y k : Int) (hl : fy Y ≤ d) (hr : d - fy Y < 366) : fy (Y + k) ≤ addN d Y k ∧ addN d Y k < fy (Y + k) + len (Y + k) := by
  have hle : 365 ≤ len (Y + k) ∧ len (Y + k) ≤ 366 := by rcases len_cases (Y + k) with h | h <;> omega
  unfold addN
  omega

set_option maxHeartbeats 400000 in
theorem addYears_yes (d Y k : Int) (w : World) (h1 : d ≤ 1048576) (hY : 1900 ≤ Y) (hl : fy Y ≤ d) (hr : d < fy (Y + 1)) (hk0 : -3000 ≤ k) (hk1 : k ≤ 3000) (hb : startB (Y + k) = true) (hN : addN d Y k ≤ 1048576) :
    Calls Tryd.prog 21 #[.int .i64 d, .int .i64 k] w fun e w' => e = .returned (.tuple #[.int .i64 (addN d Y k), .bool true]) ∧ w' = w := by
  have hY2 := year_lt hl h1
  have hn := fy_nonneg Y hY
  have hm := of_le hY hr
  have hbs := startB_le hb
  have HB := Lib.hid hb
  have hbd := addN_bd d Y k hl hm
  unfold addN at *
  have hle : 365 ≤ len (Y + k) ∧ len (Y + k) ≤ 366 := by rcases len_cases (Y + k) with h | h <;> omega
  clear hb
  go_enter Tryd.func21, Tryd.ntmps21
  go_wp2_with (first
    | (go_at_call 27; ((with_reducible refine (isDay_yes d _ (by omega) (by omega)).mono ?_); rintro e w' ⟨rfl, rfl⟩))
    | (go_at_call 27; ((with_reducible refine (isDay_yes (fy (Y + k) + min (d - fy Y + 1) (len (Y + k)) - 1) _ (by omega) (by omega)).mono ?_); rintro e w' ⟨rfl, rfl⟩))
    | (go_at_call 10; refine (yearDay_at _ Y _ h1 hY hl hr).mono ?_; rintro e w' ⟨rfl, rfl⟩)
    | (go_at_call 33; refine (yearLength_any _ _).mono ?_; rintro e w' ⟨rfl, rfl⟩)
    | (go_at_call 11; refine (start_yes (Y + k) _ HB.out).mono ?_; rintro e w' ⟨rfl, rfl⟩))
  go_ret2
  exact ⟨rfl, rfl⟩
set_option maxHeartbeats 400000 in
theorem addYears_far (d Y k : Int) (w : World) (h1 : d ≤ 1048576) (hY : 1900 ≤ Y) (hl : fy Y ≤ d) (hr : d < fy (Y + 1)) (hk0 : -3000 ≤ k) (hk1 : k ≤ 3000) (hb : startB (Y + k) = true) (hN : 1048576 < addN d Y k) :
    Calls Tryd.prog 21 #[.int .i64 d, .int .i64 k] w fun e w' => e = .returned (.tuple #[.int .i64 0, .bool false]) ∧ w' = w := by
  have hY2 := year_lt hl h1
  have hn := fy_nonneg Y hY
  have hm := of_le hY hr
  have hbs := startB_le hb
  have HB := Lib.hid hb
  have hbd := addN_bd d Y k hl hm
  unfold addN at *
  have hle : 365 ≤ len (Y + k) ∧ len (Y + k) ≤ 366 := by rcases len_cases (Y + k) with h | h <;> omega
  clear hb
  go_enter Tryd.func21, Tryd.ntmps21
  go_wp2_with (first
    | (go_at_call 27; ((with_reducible refine (isDay_yes d _ (by omega) (by omega)).mono ?_); rintro e w' ⟨rfl, rfl⟩))
    | (go_at_call 27; ((with_reducible refine (isDay_no (fy (Y + k) + min (d - fy Y + 1) (len (Y + k)) - 1) _ (by omega)).mono ?_); rintro e w' ⟨rfl, rfl⟩))
    | (go_at_call 10; refine (yearDay_at _ Y _ h1 hY hl hr).mono ?_; rintro e w' ⟨rfl, rfl⟩)
    | (go_at_call 33; refine (yearLength_any _ _).mono ?_; rintro e w' ⟨rfl, rfl⟩)
    | (go_at_call 11; refine (start_yes (Y + k) _ HB.out).mono ?_; rintro e w' ⟨rfl, rfl⟩))
  go_ret2
  exact ⟨rfl, rfl⟩

/-! The reference. -/
set_option maxHeartbeats 400000 in
theorem at_none (y m : Int) (w : World) (hb : startB y = false) :
    Calls Tryd.prog 35 #[.int .i64 y, .int .i64 m] w fun e w' => e = .returned (.tuple #[.int .i64 0, .bool false]) ∧ w' = w := by
  have HB := Lib.hid hb
  clear hb
  go_enter Tryd.func35, Tryd.ntmps35
  go_wp2_with (go_at_call 12; refine (refStart_no _ _ HB.out).mono ?_; rintro e w' ⟨rfl, rfl⟩)
  go_ret2
  exact ⟨rfl, rfl⟩
set_option maxHeartbeats 400000 in
theorem at_yes (y m : Int) (w : World) (hb : startB y = true) (h0 : 1 ≤ m) (h1 : m ≤ len y) (h2 : fy y + m - 1 ≤ 1048576) :
    Calls Tryd.prog 35 #[.int .i64 y, .int .i64 m] w fun e w' => e = .returned (.tuple #[.int .i64 (fy y + m - 1), .bool true]) ∧ w' = w := by
  have hbs := startB_le hb
  have hle : 365 ≤ len y ∧ len y ≤ 366 := by rcases len_cases y with h | h <;> omega
  have HB := Lib.hid hb
  clear hb
  go_enter Tryd.func35, Tryd.ntmps35
  go_wp2_with (first
    | (go_at_call 12; refine (refStart_yes _ _ HB.out).mono ?_; rintro e w' ⟨rfl, rfl⟩)
    | (go_at_call 30; refine (days_any _ _).mono ?_; rintro e w' ⟨rfl, rfl⟩)
    | (go_at_call 15; refine (is_yes _ _ (by omega) (by omega)).mono ?_; rintro e w' ⟨rfl, rfl⟩))
  go_ret2
  exact ⟨rfl, rfl⟩
set_option maxHeartbeats 400000 in
theorem at_off (y m : Int) (w : World) (hb : startB y = true) (hm0 : 0 ≤ m) (hm1 : m ≤ 100000) (h : m < 1 ∨ len y < m ∨ 1048576 < fy y + m - 1) :
    Calls Tryd.prog 35 #[.int .i64 y, .int .i64 m] w fun e w' => e = .returned (.tuple #[.int .i64 0, .bool false]) ∧ w' = w := by
  have hbs := startB_le hb
  have hle : 365 ≤ len y ∧ len y ≤ 366 := by rcases len_cases y with h | h <;> omega
  have HB := Lib.hid hb
  clear hb
  by_cases h1 : m < 1
  · clear h
    go_enter Tryd.func35, Tryd.ntmps35
    go_wp2_with (go_at_call 12; refine (refStart_yes _ _ HB.out).mono ?_; rintro e w' ⟨rfl, rfl⟩)
    go_ret2
    exact ⟨rfl, rfl⟩
  · by_cases h2 : len y < m
    · clear h
      go_enter Tryd.func35, Tryd.ntmps35
      go_wp2_with (first
        | (go_at_call 12; refine (refStart_yes _ _ HB.out).mono ?_; rintro e w' ⟨rfl, rfl⟩)
        | (go_at_call 30; refine (days_any _ _).mono ?_; rintro e w' ⟨rfl, rfl⟩))
      go_ret2
      exact ⟨rfl, rfl⟩
    · have h3 : 1048576 < fy y + m - 1 := by omega
      clear h
      go_enter Tryd.func35, Tryd.ntmps35
      go_wp2_with (first
        | (go_at_call 12; refine (refStart_yes _ _ HB.out).mono ?_; rintro e w' ⟨rfl, rfl⟩)
        | (go_at_call 30; refine (days_any _ _).mono ?_; rintro e w' ⟨rfl, rfl⟩)
        | (go_at_call 15; refine (is_no _ _ (by omega)).mono ?_; rintro e w' ⟨rfl, rfl⟩))
      go_ret2
      exact ⟨rfl, rfl⟩

set_option maxHeartbeats 400000 in
theorem refAdd_bad (d k : Int) (w : World) (h : (d < 0 ∨ 1048576 < d) ∨ k < -3000 ∨ 3000 < k) :
    Calls Tryd.prog 22 #[.int .i64 d, .int .i64 k] w fun e w' => e = .returned (.tuple #[.int .i64 0, .bool false]) ∧ w' = w := by
  by_cases hd : d < 0 ∨ 1048576 < d
  · clear h
    go_enter Tryd.func22, Tryd.ntmps22
    go_wp2_with (go_at_call 15; refine (is_no _ _ hd).mono ?_; rintro e w' ⟨rfl, rfl⟩)
    go_ret2
    exact ⟨rfl, rfl⟩
  · by_cases hk : k < -3000
    · clear h
      go_enter Tryd.func22, Tryd.ntmps22
      go_wp2_with (go_at_call 15; refine (is_yes _ _ (by omega) (by omega)).mono ?_; rintro e w' ⟨rfl, rfl⟩)
      go_ret2
      exact ⟨rfl, rfl⟩
    · have hk2 : 3000 < k := by omega
      clear h
      go_enter Tryd.func22, Tryd.ntmps22
      go_wp2_with (go_at_call 15; refine (is_yes _ _ (by omega) (by omega)).mono ?_; rintro e w' ⟨rfl, rfl⟩)
      go_ret2
      exact ⟨rfl, rfl⟩
set_option maxHeartbeats 400000 in
/-- Add, up to what At returns at the day of the year cut to the year's length. -/
theorem refAdd_at (d Y k n : Int) (b : Bool) (w : World) (h1 : d ≤ 1048576) (hY : 1900 ≤ Y) (hl : fy Y ≤ d) (hr : d < fy (Y + 1)) (hk0 : -3000 ≤ k) (hk1 : k ≤ 3000)
    (hat : ∀ W, Calls Tryd.prog 35 #[.int .i64 (Y + k), .int .i64 (min (d - fy Y + 1) (len (Y + k)))] W fun e w' => e = .returned (.tuple #[.int .i64 n, .bool b]) ∧ w' = W) (h0 : Y + k < 1900 → n = 0 ∧ b = false) :
    Calls Tryd.prog 22 #[.int .i64 d, .int .i64 k] w fun e w' => e = .returned (.tuple #[.int .i64 n, .bool b]) ∧ w' = w := by
  have hY2 := year_lt hl h1
  have hn := fy_nonneg Y hY
  have hm := of_le hY hr
  have HA := Lib.hid hat
  clear hat
  by_cases hz : Y + k < 1900
  · obtain ⟨rfl, rfl⟩ := h0 hz
    clear h0 HA
    go_enter Tryd.func22, Tryd.ntmps22
    go_wp2_with (first
      | (go_at_call 15; refine (is_yes _ _ (by omega) (by omega)).mono ?_; rintro e w' ⟨rfl, rfl⟩)
      | (go_at_call 16; refine (year_at _ Y _ h1 hY hl hr).mono ?_; rintro e w' ⟨rfl, rfl⟩))
    go_ret2
    exact ⟨rfl, rfl⟩
  · clear h0
    have hle : 365 ≤ len (Y + k) ∧ len (Y + k) ≤ 366 := by rcases len_cases (Y + k) with h | h <;> omega
    by_cases hg : len (Y + k) < d - fy Y + 1
    · have e : min (d - fy Y + 1) (len (Y + k)) = len (Y + k) := by omega
      rw [e] at HA
      clear e
      go_enter Tryd.func22, Tryd.ntmps22
      go_wp2_with (first
        | (go_at_call 15; refine (is_yes _ _ (by omega) (by omega)).mono ?_; rintro e w' ⟨rfl, rfl⟩)
        | (go_at_call 16; refine (year_at _ Y _ h1 hY hl hr).mono ?_; rintro e w' ⟨rfl, rfl⟩)
        | (go_at_call 30; refine (days_any _ _).mono ?_; rintro e w' ⟨rfl, rfl⟩)
        | (go_at_call 35; refine (HA.out _).mono ?_; rintro e w' ⟨rfl, rfl⟩))
      go_ret2
      exact ⟨rfl, rfl⟩
    · have e : min (d - fy Y + 1) (len (Y + k)) = d - fy Y + 1 := by omega
      rw [e] at HA
      clear e
      go_enter Tryd.func22, Tryd.ntmps22
      go_wp2_with (first
        | (go_at_call 15; refine (is_yes _ _ (by omega) (by omega)).mono ?_; rintro e w' ⟨rfl, rfl⟩)
        | (go_at_call 16; refine (year_at _ Y _ h1 hY hl hr).mono ?_; rintro e w' ⟨rfl, rfl⟩)
        | (go_at_call 30; refine (days_any _ _).mono ?_; rintro e w' ⟨rfl, rfl⟩)
        | (go_at_call 35; refine (HA.out _).mono ?_; rintro e w' ⟨rfl, rfl⟩))
      go_ret2
      exact ⟨rfl, rfl⟩
end Go.Proofs.YtagapapnpefckaaDoor
