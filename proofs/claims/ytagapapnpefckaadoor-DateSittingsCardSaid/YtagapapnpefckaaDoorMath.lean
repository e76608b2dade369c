/-
  The plain mathematics of the calendar that package date uses: leap years, lengths of years, the first day of each year in closed form. It imports nothing of the program.
-/
namespace Go.Proofs.YtagapapnpefckaaDoor
namespace Cal

/-- The rule of leap years, at every integer, in Go's remainder. -/
def leapB (y : Int) : Bool := (decide (y.tmod 4 = 0) && !decide (y.tmod 100 = 0)) || decide (y.tmod 400 = 0)
/-- The number of days of a year. -/
def len (y : Int) : Int := if leapB y then 366 else 365
/-- The first day of a year from 1900 on. -/
def fy (y : Int) : Int := 365 * (y - 1900) + (y - 1) / 4 - (y - 1) / 100 + (y - 1) / 400 - 460

theorem leapB_iff (y : Int) (h : 0 ≤ y) : leapB y = true ↔ ((y % 4 = 0 ∧ y % 100 ≠ 0) ∨ y % 400 = 0) := by
  unfold leapB
  rw [Int.tmod_eq_emod_of_nonneg h, Int.tmod_eq_emod_of_nonneg h, Int.tmod_eq_emod_of_nonneg h]
  simp

theorem len_cases (y : Int) : len y = 365 ∨ len y = 366 := by unfold len; split <;> simp
theorem fy_1900 : fy 1900 = 0 := by decide
theorem fy_succ (y : Int) (h : 1 ≤ y) : fy (y + 1) = fy y + len y := by
  unfold fy len
  have := leapB_iff y (by omega)
  by_cases hl : leapB y = true
  · rw [if_pos hl]; have := this.1 hl; omega
  · rw [if_neg hl]
    have h2 : ¬((y % 4 = 0 ∧ y % 100 ≠ 0) ∨ y % 400 = 0) := fun h => hl (this.2 h)
    omega
theorem fy_400 (y : Int) : fy (y + 400) = fy y + 146097 := by unfold fy; omega
theorem fy_lt (y z : Int) (h : y < z) : fy y < fy z := by unfold fy; omega
theorem fy_le (y z : Int) (h : y ≤ z) : fy y ≤ fy z := by unfold fy; omega
theorem fy_lo (y : Int) (h : 1900 ≤ y) : 365 * (y - 1900) ≤ fy y := by unfold fy; omega
theorem fy_hi (y : Int) (h : 1900 ≤ y) : fy y ≤ 366 * (y - 1900) := by unfold fy; omega
theorem fy_nonneg (y : Int) (h : 1900 ≤ y) : 0 ≤ fy y := by unfold fy; omega
/-- The year of a day is unique. -/
theorem fy_unique (y z d : Int) (h1 : fy y ≤ d) (h2 : d < fy (y + 1)) (h3 : fy z ≤ d) (h4 : d < fy (z + 1)) : y = z := by
  rcases Int.lt_trichotomy y z with h | h | h
  · have := fy_le (y + 1) z (by omega); omega
  · exact h
  · have := fy_le (z + 1) y (by omega); omega
end Cal
end Go.Proofs.YtagapapnpefckaaDoor
