/-
  Contracts of YearDay, YearStart, Start, At and Weekday, out of those of the loops.
-/
import Derived.Test.YtagapapnpefckaaDoorYears
namespace Go.Proofs.YtagapapnpefckaaDoor
open Go.RowKit (wrap32 wrap64 intOf Hid)
open Cal

/-- What YearDay and Year return at a day. -/
def DayIs (d : Int) (e : Ending) : Prop := ∃ y : Int, 1900 ≤ y ∧ fy y ≤ d ∧ d < fy (y + 1) ∧ e = .returned (.tuple #[.int .i64 y, .int .i64 (d - fy y + 1)])

set_option maxHeartbeats 400000 in
theorem yearDay_yes (d : Int) (w : World) (h0 : 0 ≤ d) (h1 : d ≤ 1048576) :
    Calls Tryd.prog 10 #[.int .i64 d] w fun e w' => DayIs d e ∧ w' = w := by
  go_enter Tryd.func10, Tryd.ntmps10
  go_wp2_with (first | (go_at_call 27; refine (isDay_yes _ _ h0 h1).mono ?_; rintro e w' ⟨rfl, rfl⟩) | (go_at_call 28; refine (lastYear_any _ _ _ h0 h1 (by omega) (by omega)).mono ?_; rintro e w' ⟨⟨y, hy0, hy1, hy2, hy3, rfl⟩, rfl⟩; have hlo := fy_nonneg y hy0; have hli := fy_lo y hy0))
  go_ret2
  have h4 := fy_lo 9223372036854775807 (by omega)
  refine ⟨⟨y, hy0, hy2, ?_, rfl⟩, rfl⟩
  rcases hy3 with h | h
  · subst h; omega
  · exact h
set_option maxHeartbeats 400000 in
theorem yearDay_no (d : Int) (w : World) (h : d < 0 ∨ 1048576 < d) :
    Calls Tryd.prog 10 #[.int .i64 d] w fun e w' => e = .returned (.tuple #[.int .i64 0, .int .i64 0]) ∧ w' = w := by
  go_enter Tryd.func10, Tryd.ntmps10
  go_wp2_with (go_at_call 27; refine (isDay_no _ _ h).mono ?_; rintro e w' ⟨rfl, rfl⟩)
  go_ret2
  exact ⟨rfl, rfl⟩

/-- Is there a first day of this year? -/
def startB (y : Int) : Bool := decide (1900 ≤ y ∧ fy y ≤ 1048576)
/-- The first day of a year, 0 if there is none. -/
def startI (y : Int) : Int := if startB y then fy y else 0
theorem fy_5000 : 1048576 < fy 5000 := by decide
theorem startB_le {y : Int} (h : startB y = true) : 1900 ≤ y ∧ y < 5000 ∧ fy y ≤ 1048576 ∧ 0 ≤ fy y := by
  have h' : 1900 ≤ y ∧ fy y ≤ 1048576 := by simpa [startB] using h
  refine ⟨h'.1, ?_, h'.2, fy_nonneg y h'.1⟩
  rcases Int.lt_or_le y 5000 with h5 | h5
  · exact h5
  · have := fy_le 5000 y h5; have := fy_5000; omega

set_option maxHeartbeats 400000 in
theorem yearStart_any (y : Int) (w : World) (hy : y ≤ 9223372036854775807) :
    Calls Tryd.prog 11 #[.int .i64 y] w fun e w' => e = .returned (.tuple #[.int .i64 (startI y), .bool (startB y)]) ∧ w' = w := by
  by_cases h0 : y < 1900
  · go_enter Tryd.func11, Tryd.ntmps11
    go_wp2
    go_ret2
    have hb : startB y = false := by simp [startB]; omega
    exact ⟨ret_intbool (by simp [startI, hb]) hb.symm, rfl⟩
  · have HC : Hid (∀ W, Calls Tryd.prog 28 #[.int .i64 y, .int .i64 1048576] W fun e w' => LastIs y 1048576 e ∧ w' = W) := Lib.hid fun W => lastYear_any y 1048576 W (by omega) (by omega) (by omega) hy
    cases hb : startB y
    · have HB := Lib.hid hb
      clear hb
      go_enter Tryd.func11, Tryd.ntmps11
      go_wp2_with (go_at_call 28; refine (HC.out _).mono ?_; rintro e w' ⟨⟨z, hz0, hz1, hz2, hz3, rfl⟩, rfl⟩; have hne : ¬ z = y := (fun hzy => by subst hzy; have := HB.out; simp [startB] at this; omega))
      go_ret2
      exact ⟨ret_intbool (by simp [startI, HB.out]) rfl, rfl⟩
    · have HB := Lib.hid hb
      clear hb
      have hfy := startB_le HB.out
      go_enter Tryd.func11, Tryd.ntmps11
      go_wp2_with (go_at_call 28; refine (HC.out _).mono ?_; rintro e w' ⟨⟨z, hz0, hz1, hz2, hz3, rfl⟩, rfl⟩; obtain rfl : z = y := (by rcases hz3 with h | h; exact h; (have := fy_le (z + 1) y; omega)))
      go_ret2
      exact ⟨ret_intbool (by simp [startI, HB.out]) rfl, rfl⟩
end Go.Proofs.YtagapapnpefckaaDoor
