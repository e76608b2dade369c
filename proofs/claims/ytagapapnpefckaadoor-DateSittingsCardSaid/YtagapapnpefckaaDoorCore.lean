/-
  Contracts of the functions of package date and its reference that compute with numbers alone: leap years, lengths of years, the first day of a year, the year of a day.
-/
import Derived.Handy
import Derived.WalkMore
import Derived.ScopeJumps
import Derived.Lib.Hide
import Derived.WalkLawsBesides
import Derived.WalkSpells
import Derived.Test.YtagapapnpefckaaDoorProg
import Derived.Test.YtagapapnpefckaaDoorMath
namespace Go.Proofs.YtagapapnpefckaaDoor
open Go.RowKit (wrap32 wrap64 intOf)
open Cal

theorem ret_int {k : IntKind} {a b : Int} (h : a = b) : Ending.returned (.int k a) = .returned (.int k b) := by rw [h]
theorem ret_bool {a b : Bool} (h : a = b) : Ending.returned (.bool a) = .returned (.bool b) := by rw [h]
theorem ret_two {k l : IntKind} {a b c d : Int} (h : a = b) (h2 : c = d) : Ending.returned (.tuple #[.int k a, .int l c]) = .returned (.tuple #[.int k b, .int l d]) := by rw [h, h2]
theorem ret_intbool {k : IntKind} {a b : Int} {c d : Bool} (h : a = b) (h2 : c = d) : Ending.returned (.tuple #[.int k a, .bool c]) = .returned (.tuple #[.int k b, .bool d]) := by rw [h, h2]

theorem isLeap_any (y : Int) (w : World) :
    Calls Tryd.prog 13 #[.int .i64 y] w fun e w' => e = .returned (.bool (leapB y)) ∧ w' = w := by
  go_enter Tryd.func13, Tryd.ntmps13
  go_wp2
  all_goals (go_ret; exact ⟨ret_bool (by simp_all [leapB]; try rfl), rfl⟩)
theorem long_any (y : Int) (w : World) :
    Calls Tryd.prog 14 #[.int .i64 y] w fun e w' => e = .returned (.bool (leapB y)) ∧ w' = w := by
  go_enter Tryd.func14, Tryd.ntmps14
  go_wp2
  all_goals (go_ret; exact ⟨ret_bool (by simp_all [leapB]; try rfl), rfl⟩)
theorem yearLength_any (y : Int) (w : World) :
    Calls Tryd.prog 33 #[.int .i64 y] w fun e w' => e = .returned (.int .i64 (len y)) ∧ w' = w := by
  cases hl : leapB y
  all_goals
    have HL := Lib.hid hl
    clear hl
    go_enter Tryd.func33, Tryd.ntmps33
    go_wp2_with (go_at_call 13; refine (isLeap_any _ _).mono ?_; rw [HL.out]; rintro e w' ⟨rfl, rfl⟩)
    go_ret
    exact ⟨ret_int (by unfold len; rw [HL.out]; rfl), rfl⟩
theorem days_any (y : Int) (w : World) :
    Calls Tryd.prog 30 #[.int .i64 y] w fun e w' => e = .returned (.int .i64 (len y)) ∧ w' = w := by
  cases hl : leapB y
  all_goals
    have HL := Lib.hid hl
    clear hl
    go_enter Tryd.func30, Tryd.ntmps30
    go_wp2_with (go_at_call 14; refine (long_any _ _).mono ?_; rw [HL.out]; rintro e w' ⟨rfl, rfl⟩)
    go_ret
    exact ⟨ret_int (by unfold len; rw [HL.out]; rfl), rfl⟩

/-- Is it a day? -/
def dayB (d : Int) : Bool := decide (0 ≤ d ∧ d ≤ 1048576)
theorem isDay_any (d : Int) (w : World) :
    Calls Tryd.prog 27 #[.int .i64 d] w fun e w' => e = .returned (.bool (dayB d)) ∧ w' = w := by
  go_enter Tryd.func27, Tryd.ntmps27
  go_wp2
  all_goals (go_ret; exact ⟨ret_bool (by unfold dayB; first | (simp_all; done) | (simp_all; omega)), rfl⟩)
theorem is_any (d : Int) (w : World) :
    Calls Tryd.prog 15 #[.int .i64 d] w fun e w' => e = .returned (.bool (dayB d)) ∧ w' = w := by
  go_enter Tryd.func15, Tryd.ntmps15
  go_wp2
  all_goals (go_ret; exact ⟨ret_bool (by unfold dayB; first | (simp_all; done) | (simp_all; omega)), rfl⟩)
theorem isDay_yes (d : Int) (w : World) (h0 : 0 ≤ d) (h1 : d ≤ 1048576) :
    Calls Tryd.prog 27 #[.int .i64 d] w fun e w' => e = .returned (.bool true) ∧ w' = w :=
  (isDay_any d w).mono fun e w' ⟨he, hw⟩ => ⟨by rw [he]; exact ret_bool (by simp [dayB, h0, h1]), hw⟩
theorem isDay_no (d : Int) (w : World) (h : d < 0 ∨ 1048576 < d) :
    Calls Tryd.prog 27 #[.int .i64 d] w fun e w' => e = .returned (.bool false) ∧ w' = w :=
  (isDay_any d w).mono fun e w' ⟨he, hw⟩ => ⟨by rw [he]; exact ret_bool (by simp [dayB]; omega), hw⟩
theorem is_yes (d : Int) (w : World) (h0 : 0 ≤ d) (h1 : d ≤ 1048576) :
    Calls Tryd.prog 15 #[.int .i64 d] w fun e w' => e = .returned (.bool true) ∧ w' = w :=
  (is_any d w).mono fun e w' ⟨he, hw⟩ => ⟨by rw [he]; exact ret_bool (by simp [dayB, h0, h1]), hw⟩
theorem is_no (d : Int) (w : World) (h : d < 0 ∨ 1048576 < d) :
    Calls Tryd.prog 15 #[.int .i64 d] w fun e w' => e = .returned (.bool false) ∧ w' = w :=
  (is_any d w).mono fun e w' ⟨he, hw⟩ => ⟨by rw [he]; exact ret_bool (by simp [dayB]; omega), hw⟩
end Go.Proofs.YtagapapnpefckaaDoor
