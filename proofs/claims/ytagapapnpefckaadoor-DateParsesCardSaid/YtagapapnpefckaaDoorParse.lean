/-
  Contracts of Parse, the program's and the reference's, at every text.
-/
import Derived.Test.YtagapapnpefckaaDoorDigits
import Derived.Test.YtagapapnpefckaaDoorAdd
namespace Go.Proofs.YtagapapnpefckaaDoor
open Go.RowKit (wrap32 wrap64 intOf Hid Below)
open Cal

/-- Is there a day at this day of this year? -/
def inB (y m : Int) : Bool := decide (startB y = true ∧ 1 ≤ m ∧ m ≤ len y ∧ fy y + m - 1 ≤ 1048576)
theorem inB_yes {y m : Int} (h : inB y m = true) : startB y = true ∧ 1 ≤ m ∧ m ≤ len y ∧ fy y + m - 1 ≤ 1048576 := by simpa [inB] using h
theorem inB_no {y m : Int} (h : inB y m = false) (hb : startB y = true) : m < 1 ∨ len y < m ∨ 1048576 < fy y + m - 1 := by
  by_cases h1 : 1 ≤ m
  · by_cases h2 : m ≤ len y
    · by_cases h3 : fy y + m - 1 ≤ 1048576
      · simp [inB, hb, h1, h2, h3] at h
      · omega
    · omega
  · omega

section
variable (s : ByteArray)
def dv (l : List UInt8) : Int := if allDig l then (val l : Int) else 0
/-- The four bytes before the hyphen, the three after it. -/
def l4 : List UInt8 := (s.extract 0 4).data.toList
def l3 : List UInt8 := (s.extract 5 8).data.toList
theorem pd4 (w : World) (hs : s.size = 8) : Calls Tryd.prog 32 #[.string (s.extract 0 4)] w fun e w' => e = .returned (.tuple #[.int .i64 (dv (l4 s)), .bool (allDig (l4 s))]) ∧ w' = w :=
  parseDigits_any (s.extract 0 4) w (by simp [hs])
theorem pd3 (w : World) (hs : s.size = 8) : Calls Tryd.prog 32 #[.string (s.extract 5 8)] w fun e w' => e = .returned (.tuple #[.int .i64 (dv (l3 s)), .bool (allDig (l3 s))]) ∧ w' = w :=
  parseDigits_any (s.extract 5 8) w (by simp [hs])

theorem parse_size (w : World) (h : s.size ≠ 8) :
    Calls Tryd.prog 18 #[.string s] w fun e w' => e = .returned (.tuple #[.int .i64 0, .int .i64 2]) ∧ w' = w := by
  have h1 : ((s.size : Int) == 8) = false := by rw [beq_eq_false_iff_ne]; omega
  have h2 : ¬ ((s.size : Int) = 8) := by omega
  clear h
  go_enter Tryd.func18, Tryd.ntmps18
  go_wp2
  go_ret2
  exact ⟨rfl, rfl⟩
theorem parse_dash (w : World) (hs : s.size = 8) (h : ¬ ((s[4].toNat : Int) = 45)) :
    Calls Tryd.prog 18 #[.string s] w fun e w' => e = .returned (.tuple #[.int .i64 0, .int .i64 2]) ∧ w' = w := by
  go_enter Tryd.func18, Tryd.ntmps18
  go_wp2
  go_ret2
  exact ⟨rfl, rfl⟩

set_option maxHeartbeats 400000 in
theorem parse_bad (w : World) (hs : s.size = 8) (hc : (s[4].toNat : Int) = 45) (y m : Int) (b1 b2 : Bool) (h : (b1 && b2) = false)
    (h4 : ∀ W, Calls Tryd.prog 32 #[.string (s.extract 0 4)] W fun e w' => e = .returned (.tuple #[.int .i64 y, .bool b1]) ∧ w' = W)
    (h3 : ∀ W, Calls Tryd.prog 32 #[.string (s.extract 5 8)] W fun e w' => e = .returned (.tuple #[.int .i64 m, .bool b2]) ∧ w' = W) :
    Calls Tryd.prog 18 #[.string s] w fun e w' => e = .returned (.tuple #[.int .i64 0, .int .i64 2]) ∧ w' = w := by
  have H4 := Lib.hid h4
  have H3 := Lib.hid h3
  clear h4 h3
  cases b1 <;> cases b2
  all_goals first | (exfalso; simp at h; done) | skip
  all_goals
    clear h
    go_enter Tryd.func18, Tryd.ntmps18
    go_wp2_with (first
      | (go_at_call 32; ((with_reducible refine (H4.out _).mono ?_); rintro e w' ⟨rfl, rfl⟩))
      | (go_at_call 32; ((with_reducible refine (H3.out _).mono ?_); rintro e w' ⟨rfl, rfl⟩)))
    go_ret2
    exact ⟨rfl, rfl⟩
set_option maxHeartbeats 800000 in
theorem parse_good (w : World) (hs : s.size = 8) (hc : (s[4].toNat : Int) = 45) (y m : Int) (hy : 0 ≤ y ∧ y ≤ 9999) (hm : 0 ≤ m ∧ m ≤ 999)
    (h4 : ∀ W, Calls Tryd.prog 32 #[.string (s.extract 0 4)] W fun e w' => e = .returned (.tuple #[.int .i64 y, .bool true]) ∧ w' = W)
    (h3 : ∀ W, Calls Tryd.prog 32 #[.string (s.extract 5 8)] W fun e w' => e = .returned (.tuple #[.int .i64 m, .bool true]) ∧ w' = W) :
    Calls Tryd.prog 18 #[.string s] w fun e w' => e = .returned (if inB y m then .tuple #[.int .i64 (fy y + m - 1), .int .i64 0] else .tuple #[.int .i64 0, .int .i64 3]) ∧ w' = w := by
  have H4 := Lib.hid h4
  have H3 := Lib.hid h3
  clear h4 h3
  have hle : 365 ≤ len y ∧ len y ≤ 366 := by rcases len_cases y with h | h <;> omega
  cases hb : startB y
  · have hi : inB y m = false := by simp [inB, hb]
    rw [hi]
    clear hi
    have HB := Lib.hid hb
    clear hb
    go_enter Tryd.func18, Tryd.ntmps18
    go_wp2_with (first
      | (go_at_call 32; ((with_reducible refine (H4.out _).mono ?_); rintro e w' ⟨rfl, rfl⟩))
      | (go_at_call 32; ((with_reducible refine (H3.out _).mono ?_); rintro e w' ⟨rfl, rfl⟩))
      | (go_at_call 11; refine (start_no y _ (by omega) HB.out).mono ?_; rintro e w' ⟨rfl, rfl⟩))
    go_ret2
    exact ⟨rfl, rfl⟩
  · cases hi : inB y m
    · have hx := inB_no hi hb
      have hbs := startB_le hb
      have HB := Lib.hid hb
      clear hb hi
      by_cases x1 : m < 1
      · clear hx
        go_enter Tryd.func18, Tryd.ntmps18
        go_wp2_with (first
          | (go_at_call 32; ((with_reducible refine (H4.out _).mono ?_); rintro e w' ⟨rfl, rfl⟩))
          | (go_at_call 32; ((with_reducible refine (H3.out _).mono ?_); rintro e w' ⟨rfl, rfl⟩))
          | (go_at_call 11; refine (start_yes y _ HB.out).mono ?_; rintro e w' ⟨rfl, rfl⟩))
        go_ret2
        exact ⟨rfl, rfl⟩
      · by_cases x2 : len y < m
        · clear hx
          go_enter Tryd.func18, Tryd.ntmps18
          go_wp2_with (first
            | (go_at_call 32; ((with_reducible refine (H4.out _).mono ?_); rintro e w' ⟨rfl, rfl⟩))
            | (go_at_call 32; ((with_reducible refine (H3.out _).mono ?_); rintro e w' ⟨rfl, rfl⟩))
            | (go_at_call 33; refine (yearLength_any _ _).mono ?_; rintro e w' ⟨rfl, rfl⟩)
            | (go_at_call 11; refine (start_yes y _ HB.out).mono ?_; rintro e w' ⟨rfl, rfl⟩))
          go_ret2
          exact ⟨rfl, rfl⟩
        · have x3 : 1048576 < fy y + m - 1 := by omega
          clear hx
          go_enter Tryd.func18, Tryd.ntmps18
          go_wp2_with (first
            | (go_at_call 32; ((with_reducible refine (H4.out _).mono ?_); rintro e w' ⟨rfl, rfl⟩))
            | (go_at_call 32; ((with_reducible refine (H3.out _).mono ?_); rintro e w' ⟨rfl, rfl⟩))
            | (go_at_call 33; refine (yearLength_any _ _).mono ?_; rintro e w' ⟨rfl, rfl⟩)
            | (go_at_call 27; refine (isDay_no _ _ (by omega)).mono ?_; rintro e w' ⟨rfl, rfl⟩)
            | (go_at_call 11; refine (start_yes y _ HB.out).mono ?_; rintro e w' ⟨rfl, rfl⟩))
          go_ret2
          exact ⟨rfl, rfl⟩
    · obtain ⟨_, x1, x2, x3⟩ := inB_yes hi
      have hbs := startB_le hb
      have HB := Lib.hid hb
      clear hb hi
      go_enter Tryd.func18, Tryd.ntmps18
      go_wp2_with (first
        | (go_at_call 32; ((with_reducible refine (H4.out _).mono ?_); rintro e w' ⟨rfl, rfl⟩))
        | (go_at_call 32; ((with_reducible refine (H3.out _).mono ?_); rintro e w' ⟨rfl, rfl⟩))
        | (go_at_call 33; refine (yearLength_any _ _).mono ?_; rintro e w' ⟨rfl, rfl⟩)
        | (go_at_call 27; refine (isDay_yes _ _ (by omega) (by omega)).mono ?_; rintro e w' ⟨rfl, rfl⟩)
        | (go_at_call 11; refine (start_yes y _ HB.out).mono ?_; rintro e w' ⟨rfl, rfl⟩))
      go_ret2
      exact ⟨rfl, rfl⟩
end
end Go.Proofs.YtagapapnpefckaaDoor
