/-
  The walks of the laws DateWeekdays and DateYears.
-/
import Derived.Test.YtagapapnpefckaaDoorText
namespace Go.Proofs.YtagapapnpefckaaDoor
open Go.RowKit (wrap32 wrap64 intOf Hid Below)
open Cal

theorem weekday_yes (d : Int) (w : World) (h0 : 0 ≤ d) (h1 : d ≤ 1048576) :
    Calls Tryd.prog 23 #[.int .i64 d] w fun e w' => e = .returned (.int .i64 (d % 7)) ∧ w' = w := by
  go_enter Tryd.func23, Tryd.ntmps23
  go_wp2_with (go_at_call 27; refine (isDay_yes _ _ h0 h1).mono ?_; rintro e w' ⟨rfl, rfl⟩)
  go_ret
  exact ⟨rfl, rfl⟩
theorem weekday_next (d : Int) (w : World) (h0 : 0 ≤ d) (h1 : d + 7 ≤ 1048576) :
    Calls Tryd.prog 23 #[.int .i64 (d + 7)] w fun e w' => e = .returned (.int .i64 (d % 7)) ∧ w' = w :=
  (weekday_yes (d + 7) w (by omega) h1).mono fun e w' ⟨he, hw⟩ => ⟨by rw [he]; exact ret_int (by omega), hw⟩
theorem weekday_no (d : Int) (w : World) (h : d < 0 ∨ 1048576 < d) :
    Calls Tryd.prog 23 #[.int .i64 d] w fun e w' => e = .returned (.int .i64 (-1)) ∧ w' = w := by
  go_enter Tryd.func23, Tryd.ntmps23
  go_wp2_with (go_at_call 27; refine (isDay_no _ _ h).mono ?_; rintro e w' ⟨rfl, rfl⟩)
  go_ret
  exact ⟨rfl, rfl⟩

set_option maxHeartbeats 400000 in
theorem lawWeekdays (d : Int) (w : World) (ht : Tab w) (_ : -9223372036854775808 ≤ d ∧ d ≤ 9223372036854775807) :
    Calls Tryd.prog 7 #[.int .i64 d] w fun e w' => e = .returned (.bool true) ∧ Below w.heap.size w w' := by
  by_cases hd : 0 ≤ d ∧ d ≤ 1048576
  · obtain ⟨h0, h1⟩ := hd
    by_cases h7 : d + 7 ≤ 1048576
    · go_enter Tryd.func7, Tryd.ntmps7
      go_wp2_with (first
        | (go_at_call 9; refine (awake_any _ ht).mono ?_; rintro e w' ⟨rfl, hb⟩)
        | (go_at_call 15; refine (is_yes _ _ h0 h1).mono ?_; rintro e w' ⟨rfl, rfl⟩)
        | (go_at_call 23; ((with_reducible refine (weekday_yes d _ h0 h1).mono ?_); rintro e w' ⟨rfl, rfl⟩))
        | (go_at_call 23; ((with_reducible refine (weekday_next d _ h0 h7).mono ?_); rintro e w' ⟨rfl, rfl⟩)))
      go_ret
      exact ⟨rfl, hb⟩
    · go_enter Tryd.func7, Tryd.ntmps7
      go_wp2_with (first
        | (go_at_call 9; refine (awake_any _ ht).mono ?_; rintro e w' ⟨rfl, hb⟩)
        | (go_at_call 15; refine (is_yes _ _ h0 h1).mono ?_; rintro e w' ⟨rfl, rfl⟩)
        | (go_at_call 23; ((with_reducible refine (weekday_yes d _ h0 h1).mono ?_); rintro e w' ⟨rfl, rfl⟩)))
      go_ret
      exact ⟨rfl, hb⟩
  · have hn : d < 0 ∨ 1048576 < d := by omega
    clear hd
    go_enter Tryd.func7, Tryd.ntmps7
    go_wp2_with (first
        | (go_at_call 9; refine (awake_any _ ht).mono ?_; rintro e w' ⟨rfl, hb⟩)
        | (go_at_call 15; refine (is_no _ _ hn).mono ?_; rintro e w' ⟨rfl, rfl⟩)
        | (go_at_call 23; refine (weekday_no _ _ hn).mono ?_; rintro e w' ⟨rfl, rfl⟩))
    go_ret
    exact ⟨rfl, hb⟩
end Go.Proofs.YtagapapnpefckaaDoor
