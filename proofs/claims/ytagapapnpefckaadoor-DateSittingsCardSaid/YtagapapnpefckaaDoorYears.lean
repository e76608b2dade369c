/-
  Contracts of the loops over the years: the program's labelled loop and the reference's two loops; then YearDay, YearStart, Start, At.
-/
import Derived.Test.YtagapapnpefckaaDoorCore
namespace Go.Proofs.YtagapapnpefckaaDoor
open Go.RowKit (wrap32 wrap64 intOf)
open Cal

set_option maxHeartbeats 400000 in
theorem first_any (y : Int) (w : World) (h0 : 1900 ≤ y) (h1 : y ≤ 5000) :
    Calls Tryd.prog 29 #[.int .i64 y] w fun e w' => e = .returned (.int .i64 (fy y)) ∧ w' = w := by
  go_enter Tryd.func29, Tryd.ntmps29
  go_wp2
  go_loop [3, 4] (fun n i => ∃ k : Int, 1900 ≤ k ∧ k ≤ y ∧ i = .int .i64 k ∧ n = .int .i64 (fy k)) (fun _ i => (y - intOf i).toNat)
  case atStart => exact ⟨1900, by omega, by omega, rfl, by rw [fy_1900]⟩
  case round =>
    obtain ⟨k, hk0, hk1, rfl, rfl⟩ := hrel
    have hlo := fy_nonneg k hk0
    have hhi := fy_hi k hk0
    have hl : 0 ≤ len k ∧ len k ≤ 366 := by rcases len_cases k with h | h <;> omega
    have HS := Lib.hid (fy_succ k (by omega))
    by_cases hlt : k < y
    · go_wp2_with (go_at_call 30; refine (days_any _ _).mono ?_; rintro e w' ⟨rfl, rfl⟩)
      go_round
      case rel => exact ⟨k + 1, by omega, by omega, rfl, by rw [HS.out]⟩
      case measure => simp [intOf]; omega
    · obtain rfl : k = y := by omega
      go_wp2
      go_ret
      exact ⟨rfl, rfl⟩

set_option maxHeartbeats 400000 in
theorem year_any (d : Int) (w : World) (h0 : 0 ≤ d) (h1 : d ≤ 1048576) :
    Calls Tryd.prog 16 #[.int .i64 d] w fun e w' => (∃ y : Int, 1900 ≤ y ∧ fy y ≤ d ∧ d < fy (y + 1) ∧ e = .returned (.tuple #[.int .i64 y, .int .i64 (d - fy y + 1)])) ∧ w' = w := by
  go_enter Tryd.func16, Tryd.ntmps16
  go_wp2
  go_loop [0, 4] (fun n i => ∃ k : Int, 1900 ≤ k ∧ fy k ≤ d ∧ i = .int .i64 k ∧ n = .int .i64 (d - fy k)) (fun n _ => (intOf n).toNat)
  case atStart => exact ⟨1900, by omega, by rw [fy_1900]; omega, rfl, by rw [fy_1900]; simp⟩
  case round =>
    obtain ⟨k, hk0, hk1, rfl, rfl⟩ := hrel
    have hlo := fy_lo k hk0
    have hl : 365 ≤ len k ∧ len k ≤ 366 := by rcases len_cases k with h | h <;> omega
    have HS := Lib.hid (fy_succ k (by omega))
    by_cases hlt : len k ≤ d - fy k
    · go_wp2_with (go_at_call 30; refine (days_any _ _).mono ?_; rintro e w' ⟨rfl, rfl⟩)
      go_round
      case rel => exact ⟨k + 1, by omega, by rw [HS.out]; omega, rfl, by rw [HS.out]; congr 1; omega⟩
      case measure => simp [intOf]; omega
    · go_wp2_with (go_at_call 30; refine (days_any _ _).mono ?_; rintro e w' ⟨rfl, rfl⟩)
      go_ret2
      exact ⟨⟨k, hk0, hk1, by rw [HS.out]; omega, rfl⟩, rfl⟩

/-- The frame of the labelled loop at its label. -/
def fr (l d y s : Int) (u : Nat → Value) : Act := { tmps := #[.int .i64 l, .int .i64 d, u 2, u 3, .int .i64 y, .int .i64 s, u 6, u 7, u 8, u 9, u 10, u 11, u 12, u 13, u 14, u 15, u 16, u 17, u 18, u 19, u 20, u 21, u 22, u 23, u 24, u 25, u 26, u 27, u 28, u 29, u 30, u 31, u 32, u 33, u 34, u 35, u 36, u 37, u 38], defers := [] }
/-- What holds at the label. -/
def AtLabel (l d : Int) (w : World) (a' : Act) (w' : World) : Prop := w' = w ∧ ∃ y s : Int, 1900 ≤ y ∧ y ≤ l ∧ s = fy y ∧ s ≤ d ∧
  a'.defers = [] ∧ a'.tmps.size = 39 ∧ a'.tmps[0]? = some (.int .i64 l) ∧ a'.tmps[1]? = some (.int .i64 d) ∧ a'.tmps[4]? = some (.int .i64 y) ∧ a'.tmps[5]? = some (.int .i64 s)
theorem fr_of {l d y s : Int} {a : Act} (h : a.defers = []) (hs : a.tmps.size = 39) (h0 : a.tmps[0]? = some (.int .i64 l)) (h1 : a.tmps[1]? = some (.int .i64 d)) (h4 : a.tmps[4]? = some (.int .i64 y)) (h5 : a.tmps[5]? = some (.int .i64 s)) :
    ∃ u, a = fr l d y s u := by
  obtain ⟨⟨t⟩, ds⟩ := a
  simp only at h hs h0 h1 h4 h5
  subst h
  match t, hs with
  | x0 :: x1 :: x2 :: x3 :: x4 :: x5 :: x6 :: x7 :: x8 :: x9 :: x10 :: x11 :: x12 :: x13 :: x14 :: x15 :: x16 :: x17 :: x18 :: x19 :: x20 :: x21 :: x22 :: x23 :: x24 :: x25 :: x26 :: x27 :: x28 :: x29 :: x30 :: x31 :: x32 :: x33 :: x34 :: x35 :: x36 :: x37 :: x38 :: [], _ =>
    simp at h0 h1 h4 h5
    subst h0 h1 h4 h5
    exact ⟨fun i => (#[.int .i64 l, .int .i64 d, x2, x3, .int .i64 y, .int .i64 s, x6, x7, x8, x9, x10, x11, x12, x13, x14, x15, x16, x17, x18, x19, x20, x21, x22, x23, x24, x25, x26, x27, x28, x29, x30, x31, x32, x33, x34, x35, x36, x37, x38] : Array Value).getD i undef, rfl⟩
/-- The measure of the labelled loop: what is left of the day. -/
def labMu (d : Int) (a : Act) : Nat := (d - intOf (a.tmps.getD 5 undef)).toNat
theorem labMu_lt {d s t : Int} {a b : Act} (ha : a.tmps[5]? = some (.int .i64 s)) (hb : b.tmps[5]? = some (.int .i64 t)) (h : s < t) (ht : s < d) : labMu d b < labMu d a := by
  have e1 : a.tmps.getD 5 undef = .int .i64 s := by simp [Array.getD_eq_getD_getElem?, ha]
  have e2 : b.tmps.getD 5 undef = .int .i64 t := by simp [Array.getD_eq_getD_getElem?, hb]
  unfold labMu
  rw [e1, e2]
  simp only [intOf]
  omega
/-- What the loop returns. -/
def LastIs (l d : Int) (e : Ending) : Prop := ∃ y : Int, 1900 ≤ y ∧ y ≤ l ∧ fy y ≤ d ∧ (y = l ∨ d < fy (y + 1)) ∧ e = .returned (.tuple #[.int .i64 y, .int .i64 (fy y)])

set_option maxHeartbeats 1000000 in
theorem lastYear_any (l d : Int) (w : World) (h0 : 0 ≤ d) (h1 : d ≤ 1048576) (h2 : 1900 ≤ l) (h3 : l ≤ 9223372036854775807) :
    Calls Tryd.prog 28 #[.int .i64 l, .int .i64 d] w fun e w' => LastIs l d e ∧ w' = w := by
  go_enter Tryd.func28, Tryd.ntmps28
  go_wp2
  refine wp_scope_jumps 0 (AtLabel l d w) (fun a' _ => labMu d a') rfl ?_ ?_
  · have H0 := Lib.hid fy_1900
    have H4 := Lib.hid (fy_400 1900)
    have H1 := Lib.hid (fy_succ 1900 (by omega))
    have H4' := Lib.hid (show fy 2300 = fy 1900 + 146097 from fy_400 1900)
    have H1' := Lib.hid (show fy 1901 = fy 1900 + len 1900 from fy_succ 1900 (by omega))
    have hl : 365 ≤ len 1900 ∧ len 1900 ≤ 366 := by rcases len_cases 1900 with h | h <;> omega
    by_cases hA : 400 ≤ l - 1900 <;> by_cases hB : 146097 ≤ d <;> by_cases hC : 1900 < l <;> by_cases hD : len 1900 ≤ d
    all_goals try omega
    all_goals
      go_wp2
      go_step3
      go_wp2_with (go_at_call 33; refine (yearLength_any _ _).mono ?_; rintro e w' ⟨rfl, rfl⟩)
    all_goals first
      | (go_step3; exact ⟨rfl, rfl, 2300, 146097, by omega, by omega, by rw [H4'.out, H0.out]; rfl, by omega, rfl, rfl, rfl, rfl, rfl, rfl⟩)
      | (go_step3; exact ⟨rfl, rfl, 1901, len 1900, by omega, by omega, by rw [H1'.out, H0.out]; omega, by omega, rfl, rfl, rfl, rfl, rfl, rfl⟩)
      | ((try simp only [Exit.jump]); go_ret2; exact ⟨⟨1900, by omega, by omega, by rw [H0.out]; omega, by rw [H1.out, H0.out]; omega, by rw [H0.out]; first | done | rfl⟩, rfl⟩)
  · rintro a' w' ⟨rfl, y, s, hy0, hy1, hs, hs1, f1, f2, f3, f4, f5, f6⟩
    obtain ⟨u, rfl⟩ := fr_of f1 f2 f3 f4 f5 f6
    clear f1 f2 f3 f4 f5 f6
    have hlo := fy_nonneg y hy0
    have HS := Lib.hid hs
    have H4 := Lib.hid (fy_400 y)
    have H1 := Lib.hid (fy_succ y (by omega))
    have hl : 365 ≤ len y ∧ len y ≤ 366 := by rcases len_cases y with h | h <;> omega
    have hs0 : 0 ≤ s := by omega
    clear hs
    unfold fr
    by_cases hA : 400 ≤ l - y
    · by_cases hB : 146097 ≤ d - s
      · go_wp2_with (go_at_call 33; refine (yearLength_any _ _).mono ?_; rintro e w' ⟨rfl, rfl⟩)
        go_step3
        exact ⟨rfl, ⟨rfl, y + 400, s + 146097, by omega, by omega, by rw [H4.out, HS.out], by omega, rfl, rfl, rfl, rfl, rfl, rfl⟩, labMu_lt (s := s) (t := s + 146097) rfl rfl (by omega) (by omega)⟩
      · by_cases hD : len y ≤ d - s
        · go_wp2_with (go_at_call 33; refine (yearLength_any _ _).mono ?_; rintro e w' ⟨rfl, rfl⟩)
          go_step3
          exact ⟨rfl, ⟨rfl, y + 1, s + len y, by omega, by omega, by rw [H1.out, HS.out], by omega, rfl, rfl, rfl, rfl, rfl, rfl⟩, labMu_lt (s := s) (t := s + len y) rfl rfl (by omega) (by omega)⟩
        · go_wp2_with (go_at_call 33; refine (yearLength_any _ _).mono ?_; rintro e w' ⟨rfl, rfl⟩)
          try simp only [Exit.jump]
          go_ret2
          exact ⟨⟨y, hy0, hy1, by rw [← HS.out]; omega, by rw [H1.out, ← HS.out]; omega, by rw [← HS.out]; first | done | rfl⟩, rfl⟩
    · by_cases hC : y < l
      · by_cases hD : len y ≤ d - s
        · go_wp2_with (go_at_call 33; refine (yearLength_any _ _).mono ?_; rintro e w' ⟨rfl, rfl⟩)
          go_step3
          exact ⟨rfl, ⟨rfl, y + 1, s + len y, by omega, by omega, by rw [H1.out, HS.out], by omega, rfl, rfl, rfl, rfl, rfl, rfl⟩, labMu_lt (s := s) (t := s + len y) rfl rfl (by omega) (by omega)⟩
        · go_wp2_with (go_at_call 33; refine (yearLength_any _ _).mono ?_; rintro e w' ⟨rfl, rfl⟩)
          try simp only [Exit.jump]
          go_ret2
          exact ⟨⟨y, hy0, hy1, by rw [← HS.out]; omega, by rw [H1.out, ← HS.out]; omega, by rw [← HS.out]; first | done | rfl⟩, rfl⟩
      · go_wp2_with (go_at_call 33; refine (yearLength_any _ _).mono ?_; rintro e w' ⟨rfl, rfl⟩)
        try simp only [Exit.jump]
        go_ret2
        exact ⟨⟨y, hy0, hy1, by rw [← HS.out]; omega, by omega, by rw [← HS.out]; first | done | rfl⟩, rfl⟩
end Go.Proofs.YtagapapnpefckaaDoor
