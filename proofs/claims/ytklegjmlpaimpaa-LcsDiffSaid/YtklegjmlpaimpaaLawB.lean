/-
  The walks of the laws LcsPairs and LcsIncreasing.
-/
import Derived.Test.YtklegjmlpaimpaaLawA
namespace Go.Proofs.Ytklegjmlpaimpaa
open Go.RowKit (wrap32 wrap64 intOf Hid Below)
open Lcs Rise

theorem pv_at : ∀ (K : List (Nat × Nat)) (k : Nat), k < K.length → (pv K)[k * 2]? = some (.int .i64 ((K.getD k (0, 0)).1 : Int)) ∧ (pv K)[k * 2 + 1]? = some (.int .i64 ((K.getD k (0, 0)).2 : Int))
  | [], _, h => absurd h (by simp)
  | p :: K, 0, _ => ⟨rfl, rfl⟩
  | p :: K, k + 1, h => by
    obtain ⟨h1, h2⟩ := pv_at K k (by simpa using h)
    have e : pv (p :: K) = [.int .i64 (p.1 : Int), .int .i64 (p.2 : Int)] ++ pv K := by simp [pv]
    rw [e, show (k + 1) * 2 = 2 + k * 2 by omega, show 2 + k * 2 + 1 = 2 + (k * 2 + 1) by omega]
    rw [List.getElem?_append_right (by simp), List.getElem?_append_right (by simp)]
    simpa using ⟨h1, h2⟩
/-- What the two lists of pairs hold at an index. -/
theorem pair_cells {w wr : World} {base n c : Nat} {A : Option Addr} {K : List (Nat × Nat)} (h : w.ownsRow base 29 2 (.slice A n c) n (pv K)) (hb : Below w.heap.size w wr) (hn : n = K.length) {k : Nat} (hk : k < n) :
    ∃ g, A = some ⟨g, 0, none⟩ ∧ wr.cell? ⟨g, k * 2, none⟩ = some (.int .i64 ((K.getD k (0, 0)).1 : Int)) ∧ wr.cell? ⟨g, k * 2 + 1, none⟩ = some (.int .i64 ((K.getD k (0, 0)).2 : Int)) := by
  obtain ⟨g, hA, hc⟩ := pv_cells h hb hn (by omega)
  obtain ⟨h1, h2⟩ := pv_at K k (by omega)
  exact ⟨g, hA, hc _ _ h1, hc _ _ h2⟩

set_option maxHeartbeats 4000000 in
set_option maxRecDepth 100000 in
theorem lawPairs (La Lb : List Str) (n m c d : Nat) (A D : Option Addr) (w : World) (ha : Sq w A n c La) (hb : Sq w D m d Lb) :
    Calls Try.prog 3 #[.slice A n c, .slice D m d] w fun e w' => e = .returned (.bool true) ∧ Below w.heap.size w w' := by
  have HA := Lib.hid ha
  have HB := Lib.hid hb
  have HAw := Lib.hid (awake_any w)
  clear ha hb
  go_enter Try.func3, Try.ntmps3
  go_wp2_with fail
  with_reducible refine (HAw.out).mono ?_
  rintro e w1 ⟨rfl, hb1⟩
  have hb1z := hb1.size
  have HB1 := Lib.hid (big_c La n c 40 40 rfl A w1 (HA.out.below hb1) (by omega))
  go_wp2_with fail
  with_reducible refine (HB1.out).mono ?_
  rintro e w2 ⟨⟨b1, rfl, h30⟩, rfl⟩
  cases b1 with
  | true =>
    go_wp2
    go_ret
    exact ⟨rfl, hb1⟩
  | false =>
    have hn := h30 rfl
    have HB2 := Lib.hid (big_c Lb m d 40 40 rfl D w1 (HB.out.below hb1) (by omega))
    clear h30
    go_wp2_with fail
    with_reducible refine (HB2.out).mono ?_
    rintro e w2 ⟨⟨b2, rfl, h30⟩, rfl⟩
    cases b2 with
    | true =>
      go_wp2
      go_ret
      exact ⟨rfl, hb1⟩
    | false =>
      have hm := h30 rfl
      clear h30
      have HP1 := Lib.hid (pairs_any La Lb n m c d A D w1 (HA.out.below hb1) (HB.out.below hb1) (by omega) (by omega))
      have hle := prl_le La Lb
      have hlen := HA.out.len
      obtain ⟨K, hK⟩ : ∃ K, K = prl La Lb := ⟨_, rfl⟩
      rw [← hK] at HP1 hle
      have HK := Lib.hid hK
      clear hK
      go_wp2_with fail
      with_reducible refine (HP1.out).mono ?_
      rintro e w2 ⟨⟨A2, q, c2, rfl, hq, hown2⟩, hb2⟩
      have hb02 := hb1.trans (hb2.mono hb1z)
      have hb02z := hb02.size
      have HO2 := Lib.hid hown2
      have hqn : q ≤ 40 := by omega
      have HQ := Lib.hid hq
      have hcm := common_any La Lb n m c d A D w2 (HA.out.below hb02) (HB.out.below hb02) (by omega) (by omega)
      rw [← HK.out] at hcm
      have HCm := Lib.hid hcm
      clear hown2 hq hcm hle hlen
      go_wp2_with fail
      with_reducible refine (HCm.out).mono ?_
      rintro e w3 ⟨⟨A3, q3, c3, rfl, hq3, hown3⟩, hb3⟩
      obtain rfl : q3 = q := hq3.trans HQ.out.symm
      have hb03 := hb02.trans (hb3.mono hb02z)
      have hb03z := hb03.size
      have HO3 := Lib.hid hown3
      have HDi := Lib.hid (dist_any La Lb n m c d A D w3 (HA.out.below hb03) (HB.out.below hb03) (by omega) (by omega))
      obtain ⟨X, hX⟩ : ∃ X, X = dst La Lb := ⟨_, rfl⟩
      rw [← hX] at HDi
      have HX := Lib.hid hX
      clear hown3 hq3 hX
      go_wp2_with fail
      with_reducible refine (HDi.out).mono ?_
      rintro e w4 ⟨rfl, hb4⟩
      have hb04 := hb03.trans (hb4.mono hb03z)
      have hb04z := hb04.size
      have hfa := rfar_any La Lb n m c d A D w4 (HA.out.below hb04) (HB.out.below hb04) (by omega) (by omega)
      rw [← HX.out] at hfa
      have HFa := Lib.hid hfa
      clear hfa
      go_wp2_with fail
      with_reducible refine (HFa.out).mono ?_
      rintro e w5 ⟨rfl, hb5⟩
      have hb05 := hb04.trans (hb5.mono hb04z)
      have hb05z := hb05.size
      have hb25 := (hb3.trans (hb4.mono hb3.size)).trans (hb5.mono (hb3.trans (hb4.mono hb3.size)).size)
      have hb35 := hb4.trans (hb5.mono hb4.size)
      have HB25 := Lib.hid hb25
      have HB35 := Lib.hid hb35
      clear hb25 hb35
      have hXX : (X != X) = false := by simp
      go_wp2
      go_loopw [7] (fun i wr => ∃ k : Nat, k ≤ q3 ∧ i = .int .i64 k ∧ ∃ z, wr = w5.drewN z) (fun i _ => q3 - (intOf i).toNat)
      case atStart => exact ⟨0, Nat.zero_le _, rfl, 0, rfl⟩
      case round =>
        obtain ⟨k, hk, rfl, hq⟩ := hrel
        have HQd := Lib.hid hq
        have hbq := drew_below hq
        clear hq
        by_cases hlt : k < q3
        · obtain ⟨g2, rfl, x1, x2⟩ := pair_cells HO2.out (HB25.out.trans (hbq.mono HB25.out.size)) HQ.out hlt
          obtain ⟨g3, rfl, y1, y2⟩ := pair_cells HO3.out (HB35.out.trans (hbq.mono HB35.out.size)) HQ.out hlt
          generalize (K.getD k (0, 0)).1 = u at *
          generalize (K.getD k (0, 0)).2 = v at *
          go_wp2
          go_quiet (fail)
          go_wp2
          go_roundw
          case rel => exact ⟨k + 1, by omega, by go_num, drew_more HQd.out _⟩
          case measure => simp [intOf]; omega
        · go_wp2
          go_ret
          exact ⟨rfl, hb05.trans (hbq.mono hb05z)⟩
theorem lawPairs' {L0 L1 : List Str} {n0 n1 c0 c1 : Nat} {A0 A1 : Option Addr} {w : World} (h0 : Sq w A0 n0 c0 L0) (h1 : Sq w A1 n1 c1 L1) :
    Calls Try.prog 3 #[.slice A0 n0 c0, .slice A1 n1 c1] w fun e w' => e = .returned (.bool true) ∧ Below w.heap.size w w' := lawPairs L0 L1 n0 n1 c0 c1 A0 A1 w h0 h1
end Go.Proofs.Ytklegjmlpaimpaa
