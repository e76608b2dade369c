/-
  The walks of the laws LcsPairs, LcsDistance and LcsIncreasing.
-/
import Derived.Test.YtklegjmlpaimpaaAwk
namespace Go.Proofs.Ytklegjmlpaimpaa
open Go.RowKit (wrap32 wrap64 intOf Hid Below)
open Lcs Rise

theorem big_c (L : List Str) (n c most : Nat) (z : Int) (hzm : z = most) (A : Option Addr) (w : World) (hz : Sq w A n c L) (hmost : most ≤ 1000) :
    Calls Try.prog 11 #[.slice A n c, .int .i64 z] w fun e w' => BigRet n most e ∧ w = w' := big_any L _ n c most z hzm A w hz.1.1 hmost
theorem same_c (La Lb : List Str) (N M ca cb : Nat) (Aa Ab : Option Addr) (w : World) (ha : Sq w Aa N ca La) (hb : Sq w Ab M cb Lb) :
    Calls Try.prog 19 #[.slice Aa N ca, .slice Ab M cb] w fun e w' => e = .returned (.bool (decide (La = Lb))) ∧ Below w.heap.size w w' :=
  (same_any La Lb w.heap.size N M ca cb Aa Ab w ha.1.1 hb.1.1 (by have := ha.1.2.2.2.1; omega) (by have := hb.1.2.2.2.1; omega) (Nat.le_refl _)).mono fun _ _ ⟨he, hq⟩ => ⟨he, drew_below hq⟩
theorem far_nonneg (a b : List Str) : 0 ≤ far a b ∧ far a b ≤ a.length + b.length := by
  have := len_left a b
  have := len_right a b
  unfold far
  omega

set_option maxHeartbeats 4000000 in
set_option maxRecDepth 100000 in
theorem lawDist (La Lb Lc : List Str) (n m k c d f : Nat) (A D E : Option Addr) (w : World) (ha : Sq w A n c La) (hb : Sq w D m d Lb) (hc : Sq w E k f Lc) :
    Calls Try.prog 7 #[.slice A n c, .slice D m d, .slice E k f] w fun e w' => e = .returned (.bool true) ∧ Below w.heap.size w w' := by
  have HA := Lib.hid ha
  have HB := Lib.hid hb
  have HC := Lib.hid hc
  have HAw := Lib.hid (awake_any w)
  clear ha hb hc
  go_enter Try.func7, Try.ntmps7
  go_wp2_with fail
  with_reducible refine (HAw.out).mono ?_
  rintro e w1 ⟨rfl, hb1⟩
  have hb1z := hb1.size
  have HB1 := Lib.hid (big_c La n c 30 30 rfl A w1 (HA.out.below hb1) (by omega))
  go_wp2_with fail
  with_reducible refine (HB1.out).mono ?_
  rintro e w2 ⟨⟨b1, rfl, h30⟩, rfl⟩
  cases b1 with
  | true =>
    go_wp2
    go_ret
    exact ⟨rfl, hb1⟩
  | false =>
    have hn := h30 rfl
    have HB2 := Lib.hid (big_c Lb m d 30 30 rfl D w1 (HB.out.below hb1) (by omega))
    clear h30
    go_wp2_with fail
    with_reducible refine (HB2.out).mono ?_
    rintro e w2 ⟨⟨b2, rfl, h30⟩, rfl⟩
    cases b2 with
    | true =>
      go_wp2
      go_ret
      exact ⟨rfl, hb1⟩
    | false =>
      have hm := h30 rfl
      have HB3 := Lib.hid (big_c Lc k f 30 30 rfl E w1 (HC.out.below hb1) (by omega))
      clear h30
      go_wp2_with fail
      with_reducible refine (HB3.out).mono ?_
      rintro e w2 ⟨⟨b3, rfl, h30⟩, rfl⟩
      cases b3 with
      | true =>
        go_wp2
        go_ret
        exact ⟨rfl, hb1⟩
      | false =>
        have hk := h30 rfl
        clear h30
        have la := HA.out.len
        have lb := HB.out.len
        have lc := HC.out.len
        have hD : ∀ (L1 L2 : List Str) (n1 n2 c1 c2 : Nat) (A1 A2 : Option Addr) (W : World), L1.length ≤ 256 → L2.length ≤ 256 → Sq W A1 n1 c1 L1 → Sq W A2 n2 c2 L2 → Calls Try.prog 14 #[.slice A1 n1 c1, .slice A2 n2 c2] W fun e w' => e = .returned (.int .i64 (far L1 L2)) ∧ Below W.heap.size W w' :=
          fun L1 L2 n1 n2 c1 c2 A1 A2 W g1 g2 h1 h2 => by
            rw [← dst_far g1 g2]
            exact dist_any L1 L2 n1 n2 c1 c2 A1 A2 W h1 h2 (by have := h1.len; omega) (by have := h2.len; omega)
        have HAB : Hid (∀ W, Below w.heap.size w W → Calls Try.prog 14 #[.slice A n c, .slice D m d] W fun e w' => e = .returned (.int .i64 (far La Lb)) ∧ Below W.heap.size W w') := Lib.hid fun W h => hD _ _ _ _ _ _ _ _ W (by omega) (by omega) (HA.out.below h) (HB.out.below h)
        have HBA : Hid (∀ W, Below w.heap.size w W → Calls Try.prog 14 #[.slice D m d, .slice A n c] W fun e w' => e = .returned (.int .i64 (far La Lb)) ∧ Below W.heap.size W w') := Lib.hid fun W h => by
          rw [far_comm La Lb]
          exact hD _ _ _ _ _ _ _ _ W (by omega) (by omega) (HB.out.below h) (HA.out.below h)
        have HBC : Hid (∀ W, Below w.heap.size w W → Calls Try.prog 14 #[.slice D m d, .slice E k f] W fun e w' => e = .returned (.int .i64 (far Lb Lc)) ∧ Below W.heap.size W w') := Lib.hid fun W h => hD _ _ _ _ _ _ _ _ W (by omega) (by omega) (HB.out.below h) (HC.out.below h)
        have HAC : Hid (∀ W, Below w.heap.size w W → Calls Try.prog 14 #[.slice A n c, .slice E k f] W fun e w' => e = .returned (.int .i64 (far La Lc)) ∧ Below W.heap.size W w') := Lib.hid fun W h => hD _ _ _ _ _ _ _ _ W (by omega) (by omega) (HA.out.below h) (HC.out.below h)
        have HAA : Hid (∀ W, Below w.heap.size w W → Calls Try.prog 14 #[.slice A n c, .slice A n c] W fun e w' => e = .returned (.int .i64 0) ∧ Below W.heap.size W w') := Lib.hid fun W h => by
          rw [← far_self La]
          exact hD _ _ _ _ _ _ _ _ W (by omega) (by omega) (HA.out.below h) (HA.out.below h)
        have HSm : Hid (∀ W, Below w.heap.size w W → Calls Try.prog 19 #[.slice A n c, .slice D m d] W fun e w' => e = .returned (.bool (decide (far La Lb = 0))) ∧ Below W.heap.size W w') := Lib.hid fun W h => by
          rw [show decide (far La Lb = 0) = decide (La = Lb) by rw [decide_eq_decide]; exact far_zero La Lb]
          exact same_c La Lb _ _ _ _ _ _ W (HA.out.below h) (HB.out.below h)
        have x1 := far_nonneg La Lb
        have x2 := far_nonneg Lb Lc
        have x3 := far_nonneg La Lc
        have ht := far_tri La Lb Lc
        rw [la, lb] at x1
        rw [lb, lc] at x2
        rw [la, lc] at x3
        obtain ⟨x1, y1⟩ := x1
        obtain ⟨x2, y2⟩ := x2
        obtain ⟨x3, y3⟩ := x3
        clear hD la lb lc
        generalize far La Lb = X at *
        generalize far Lb Lc = Y at *
        generalize far La Lc = Z at *
        have HD1 := Lib.hid (HAB.out w1 hb1)
        go_wp2_with fail
        with_reducible refine (HD1.out).mono ?_
        rintro e w2 ⟨rfl, hb2⟩
        have hb02 := hb1.trans (hb2.mono hb1z)
        have hb02z := hb02.size
        have HD2 := Lib.hid (HBC.out w2 hb02)
        go_wp2_with fail
        with_reducible refine (HD2.out).mono ?_
        rintro e w3 ⟨rfl, hb3⟩
        have hb03 := hb02.trans (hb3.mono hb02z)
        have hb03z := hb03.size
        have HD3 := Lib.hid (HAC.out w3 hb03)
        go_wp2_with fail
        with_reducible refine (HD3.out).mono ?_
        rintro e w4 ⟨rfl, hb4⟩
        have hb04 := hb03.trans (hb4.mono hb03z)
        have hb04z := hb04.size
        have HD4 := Lib.hid (HBA.out w4 hb04)
        go_wp2_with fail
        with_reducible refine (HD4.out).mono ?_
        rintro e w5 ⟨rfl, hb5⟩
        have hb05 := hb04.trans (hb5.mono hb04z)
        have hb05z := hb05.size
        have HD5 := Lib.hid (HAA.out w5 hb05)
        go_wp2_with fail
        with_reducible refine (HD5.out).mono ?_
        rintro e w6 ⟨rfl, hb6⟩
        have hb06 := hb05.trans (hb6.mono hb05z)
        have hb06z := hb06.size
        by_cases hx : X = 0
        · subst hx
          have HS6 := Lib.hid (HSm.out w6 hb06)
          go_wp2_with fail
          with_reducible refine (HS6.out).mono ?_
          rintro e w7 ⟨rfl, hb7⟩
          go_wp2
          go_ret
          exact ⟨rfl, hb06.trans (hb7.mono hb06z)⟩
        · have HS6 := HSm.out w6 hb06
          rw [decide_eq_false hx] at HS6
          have HS6 := Lib.hid HS6
          have hx' : (X == 0) = false := by rw [beq_eq_false_iff_ne]; exact hx
          go_wp2_with fail
          with_reducible refine (HS6.out).mono ?_
          rintro e w7 ⟨rfl, hb7⟩
          go_wp2
          go_ret
          exact ⟨rfl, hb06.trans (hb7.mono hb06z)⟩
theorem lawDist' {L0 L1 L2 : List Str} {n0 n1 n2 c0 c1 c2 : Nat} {A0 A1 A2 : Option Addr} {w : World} (h0 : Sq w A0 n0 c0 L0) (h1 : Sq w A1 n1 c1 L1) (h2 : Sq w A2 n2 c2 L2) :
    Calls Try.prog 7 #[.slice A0 n0 c0, .slice A1 n1 c1, .slice A2 n2 c2] w fun e w' => e = .returned (.bool true) ∧ Below w.heap.size w w' := lawDist L0 L1 L2 n0 n1 n2 c0 c1 c2 A0 A1 A2 w h0 h1 h2
end Go.Proofs.Ytklegjmlpaimpaa
