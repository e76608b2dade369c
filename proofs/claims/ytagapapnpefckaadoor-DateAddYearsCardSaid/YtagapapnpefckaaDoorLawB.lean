/-
  The walk of the law DateAddYears.
-/
import Derived.Test.YtagapapnpefckaaDoorAdd
namespace Go.Proofs.YtagapapnpefckaaDoor
open Go.RowKit (wrap32 wrap64 intOf Hid Below)
open Cal

/-- Both answer (0, false), and the law then asks for 0 alone. -/
theorem lawAdd_none (d k : Int) (w : World) (ht : Tab w)
    (hA : ∀ W, Calls Tryd.prog 21 #[.int .i64 d, .int .i64 k] W fun e w' => e = .returned (.tuple #[.int .i64 0, .bool false]) ∧ w' = W)
    (hB : ∀ W, Calls Tryd.prog 22 #[.int .i64 d, .int .i64 k] W fun e w' => e = .returned (.tuple #[.int .i64 0, .bool false]) ∧ w' = W) :
    Calls Tryd.prog 6 #[.int .i64 d, .int .i64 k] w fun e w' => e = .returned (.bool true) ∧ Below w.heap.size w w' := by
  have HA := Lib.hid hA
  have HB := Lib.hid hB
  clear hA hB
  go_enter Tryd.func6, Tryd.ntmps6
  go_wp2_with (first
    | (go_at_call 9; refine (awake_any _ ht).mono ?_; rintro e w' ⟨rfl, hb⟩)
    | (go_at_call 21; refine (HA.out _).mono ?_; rintro e w' ⟨rfl, rfl⟩)
    | (go_at_call 22; refine (HB.out _).mono ?_; rintro e w' ⟨rfl, rfl⟩))
  go_ret
  exact ⟨rfl, by assumption⟩

theorem back_bd (d Y k : Int) (h1 : d ≤ 1048576) (hY : 1900 ≤ Y) (hl : fy Y ≤ d) (hr : d < fy (Y + 1)) (hb : startB (Y + k) = true) :
    fy (Y + k) ≤ addN d Y k ∧ addN d Y k < fy (Y + k + 1) ∧ startB (Y + k + -k) = true ∧ addN (addN d Y k) (Y + k) (-k) ≤ 1048576 ∧ (d - fy Y + 1 ≠ 366 → addN (addN d Y k) (Y + k) (-k) = d) := by
  have hm := of_le hY hr
  have hbs := startB_le hb
  have hbd := addN_bd d Y k hl hm
  have hs := fy_succ (Y + k) (by omega)
  have hs2 := fy_succ Y (by omega)
  have hle : 365 ≤ len (Y + k) ∧ len (Y + k) ≤ 366 := by rcases len_cases (Y + k) with h | h <;> omega
  have e : Y + k + -k = Y := by omega
  have hst := startB_mk hY (by omega : fy Y ≤ 1048576)
  have hle2 : 365 ≤ len Y ∧ len Y ≤ 366 := by rcases len_cases Y with h | h <;> omega
  refine ⟨hbd.1, by omega, by rw [e]; exact hst, ?_, fun hne => ?_⟩
  all_goals
    unfold addN at *
    rw [e]
    omega

set_option maxHeartbeats 1000000 in
theorem lawAdd_some (d Y k : Int) (w : World) (ht : Tab w) (h1 : d ≤ 1048576) (hY : 1900 ≤ Y) (hl : fy Y ≤ d) (hr : d < fy (Y + 1)) (hk0 : -3000 ≤ k) (hk1 : k ≤ 3000) (hb : startB (Y + k) = true) (hN : addN d Y k ≤ 1048576) :
    Calls Tryd.prog 6 #[.int .i64 d, .int .i64 k] w fun e w' => e = .returned (.bool true) ∧ Below w.heap.size w w' := by
  obtain ⟨b0, b1, b2, b3, b4⟩ := back_bd d Y k h1 hY hl hr hb
  have hbd := addN_bd d Y k hl (of_le hY hr)
  have hbs := startB_le hb
  have hn := fy_nonneg Y hY
  have hm := of_le hY hr
  have HA : Hid (∀ W, Calls Tryd.prog 21 #[.int .i64 d, .int .i64 k] W fun e w' => e = .returned (.tuple #[.int .i64 (addN d Y k), .bool true]) ∧ w' = W) := Lib.hid fun W => addYears_yes d Y k W h1 hY hl hr hk0 hk1 hb hN
  have HB : Hid (∀ W, Calls Tryd.prog 22 #[.int .i64 d, .int .i64 k] W fun e w' => e = .returned (.tuple #[.int .i64 (addN d Y k), .bool true]) ∧ w' = W) := Lib.hid fun W => refAdd_at d Y k _ _ W h1 hY hl hr hk0 hk1
    (fun V => by
      have hle : 365 ≤ len (Y + k) ∧ len (Y + k) ≤ 366 := by rcases len_cases (Y + k) with h | h <;> omega
      exact at_yes (Y + k) (min (d - fy Y + 1) (len (Y + k))) V hb (by omega) (by omega) hN)
    (fun h => absurd h (by omega))
  have HC : Hid (∀ W, Calls Tryd.prog 21 #[.int .i64 (addN d Y k), .int .i64 (-k)] W fun e w' => e = .returned (.tuple #[.int .i64 (addN (addN d Y k) (Y + k) (-k)), .bool true]) ∧ w' = W) := Lib.hid fun W => addYears_yes (addN d Y k) (Y + k) (-k) W hN hbs.1 b0 b1 (by omega) (by omega) b2 b3
  generalize addN (addN d Y k) (Y + k) (-k) = back at b3 b4 HC
  generalize addN d Y k = N at HA HB HC b0 b1 hN hbd
  clear hb b2 b3
  by_cases h6 : d - fy Y + 1 = 366
  · have H6 : (d - fy Y + 1 == 366) = true := by rw [beq_iff_eq]; exact h6
    clear h6 b4
    go_enter Tryd.func6, Tryd.ntmps6
    go_wp2_with (first
      | (go_at_call 9; refine (awake_any _ ht).mono ?_; rintro e w' ⟨rfl, hb⟩)
      | (go_at_call 21; ((with_reducible refine (HA.out _).mono ?_); rintro e w' ⟨rfl, rfl⟩))
      | (go_at_call 21; ((with_reducible refine (HC.out _).mono ?_); rintro e w' ⟨rfl, rfl⟩))
      | (go_at_call 16; refine (year_at _ Y _ h1 hY hl hr).mono ?_; rintro e w' ⟨rfl, rfl⟩)
      | (go_at_call 22; refine (HB.out _).mono ?_; rintro e w' ⟨rfl, rfl⟩))
    go_ret
    exact ⟨rfl, by assumption⟩
  · obtain rfl := b4 h6
    have H6 : (back - fy Y + 1 == 366) = false := by rw [beq_eq_false_iff_ne]; exact h6
    clear h6 b4
    go_enter Tryd.func6, Tryd.ntmps6
    go_wp2_with (first
      | (go_at_call 9; refine (awake_any _ ht).mono ?_; rintro e w' ⟨rfl, hb⟩)
      | (go_at_call 21; ((with_reducible refine (HA.out _).mono ?_); rintro e w' ⟨rfl, rfl⟩))
      | (go_at_call 21; ((with_reducible refine (HC.out _).mono ?_); rintro e w' ⟨rfl, rfl⟩))
      | (go_at_call 16; refine (year_at _ Y _ h1 hY hl hr).mono ?_; rintro e w' ⟨rfl, rfl⟩)
      | (go_at_call 22; refine (HB.out _).mono ?_; rintro e w' ⟨rfl, rfl⟩))
    go_ret
    exact ⟨rfl, by assumption⟩

/-- The law DateAddYears. -/
theorem lawAddYears (d k : Int) (w : World) (ht : Tab w) (_ : -9223372036854775808 ≤ d ∧ d ≤ 9223372036854775807) (_ : -9223372036854775808 ≤ k ∧ k ≤ 9223372036854775807) :
    Calls Tryd.prog 6 #[.int .i64 d, .int .i64 k] w fun e w' => e = .returned (.bool true) ∧ Below w.heap.size w w' := by
  by_cases hbad : (d < 0 ∨ 1048576 < d) ∨ k < -3000 ∨ 3000 < k
  · exact lawAdd_none d k w ht (fun W => addYears_bad d k W hbad) (fun W => refAdd_bad d k W hbad)
  · have h1 : d ≤ 1048576 := by omega
    have hk0 : -3000 ≤ k := by omega
    have hk1 : k ≤ 3000 := by omega
    obtain ⟨Y, hY, hl, hr⟩ := year_of d (by omega)
    cases hb : startB (Y + k)
    · exact lawAdd_none d k w ht (fun W => addYears_out d Y k W h1 hY hl hr hk0 hk1 hb) (fun W => refAdd_at d Y k 0 false W h1 hY hl hr hk0 hk1 (fun V => at_none _ _ V hb) (fun _ => ⟨rfl, rfl⟩))
    · have hle : 365 ≤ len (Y + k) ∧ len (Y + k) ≤ 366 := by rcases len_cases (Y + k) with h | h <;> omega
      by_cases hN : addN d Y k ≤ 1048576
      · exact lawAdd_some d Y k w ht h1 hY hl hr hk0 hk1 hb hN
      · have hN' : 1048576 < addN d Y k := by omega
        exact lawAdd_none d k w ht (fun W => addYears_far d Y k W h1 hY hl hr hk0 hk1 hb hN') (fun W => refAdd_at d Y k 0 false W h1 hY hl hr hk0 hk1 (fun V => at_off _ _ V hb (by omega) (by omega) (by unfold addN at hN'; omega)) (fun _ => ⟨rfl, rfl⟩))
end Go.Proofs.YtagapapnpefckaaDoor
