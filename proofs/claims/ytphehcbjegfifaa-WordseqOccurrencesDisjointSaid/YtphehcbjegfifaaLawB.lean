/-
  The walk of the law WordseqOccurrencesDisjoint.
-/
import Derived.Test.YtphehcbjegfifaaLawA
namespace Go.Proofs.Ytphehcbjegfifaa
open Go.RowKit (wrap32 wrap64 intOf Hid Below)
open Occ

/-- What the occurrences behind the first k say of the next one. -/
theorem occ_next {L P : List Str} (hP : P ≠ []) {k e : Nat} (hk : k < (occ L P 0).length) (h : occ L P e = (occ L P 0).drop k) :
    e ≤ nt (occ L P 0) k ∧ stands L P (nt (occ L P 0) k) = true ∧ (∀ j, e ≤ j → j < nt (occ L P 0) k → stands L P j = false) ∧ occ L P (nt (occ L P 0) k + P.length) = (occ L P 0).drop (k + 1) := by
  have h2 : occ L P e = nt (occ L P 0) k :: (occ L P 0).drop (k + 1) := by rw [h, nt_eq hk, List.drop_eq_getElem_cons hk]
  obtain ⟨a, b, c, d⟩ := occ_head hP e _ _ h2
  exact ⟨a, b, c, d.symm⟩

set_option maxHeartbeats 4000000 in
set_option maxRecDepth 100000 in
theorem lawDisjoint {L0 L1 : List Str} {n0 n1 c0 c1 : Nat} {A0 A1 : Option Addr} {w : World} (h0 : Sq w A0 n0 c0 L0) (h1 : Sq w A1 n1 c1 L1) :
    Calls Try.prog 5 #[.slice A0 n0 c0, .slice A1 n1 c1] w fun e w' => e = .returned (.bool true) ∧ Below w.heap.size w w' := by
  have HLo := Lib.hid (long_two w A0 A1 n0 c0 n1 c1 L0 L1 h0 h1)
  have HL := Lib.hid h0
  have HP := Lib.hid h1
  have hn0 := h0.1.2.2.2.1
  have hn1 := h1.1.2.2.2.1
  have HAw : Hid (∀ W, Below w.heap.size w W → Calls Try.prog 10 #[] W fun e w' => e = .returned (.bool true) ∧ Below w.heap.size w w') := Lib.hid fun W h =>
    (awake_any W).mono fun _ _ ⟨he, hb⟩ => ⟨he, h.trans (hb.mono h.size)⟩
  clear h0 h1
  go_enter Try.func5, Try.ntmps5
  go_wp2_with fail
  with_reducible refine (HLo.out).mono ?_
  rintro e w1 ⟨⟨b, rfl, h300⟩, hb1⟩
  have hb1z := hb1.size
  have HA1 := Lib.hid (HAw.out w1 hb1)
  cases b with
  | true =>
    clear h300
    go_wp2_with (go_at_call 10; ((with_reducible refine (HA1.out).mono ?_); rintro e w2 ⟨rfl, hb2⟩))
    go_ret
    exact ⟨rfl, hb2⟩
  | false =>
    obtain ⟨hn, hm⟩ := h300 rfl
    clear h300
    by_cases hm0 : n1 = 0
    · subst hm0
      go_wp2_with (go_at_call 10; ((with_reducible refine (HA1.out).mono ?_); rintro e w2 ⟨rfl, hb2⟩))
      go_ret
      exact ⟨rfl, hb2⟩
    · have em : ((n1 : Int) == 0) = false := by rw [beq_eq_false_iff_ne]; omega
      have HNE : Hid (L1 ≠ []) := Lib.hid (by
        rintro rfl
        exact hm0 HP.out.len.symm)
      have HSt : Hid (∀ W (j : Nat), Below w.heap.size w W → j ≤ 300 → Calls Try.prog 20 #[.slice A0 n0 c0, .slice A1 n1 c1, .int .i64 (j : Int)] W fun e w' => e = .returned (.bool (stands L0 L1 j)) ∧ Below W.heap.size W w' ∧ Below w.heap.size w w') := Lib.hid fun W j h hj =>
        (stands_any L0 L1 W.heap.size n0 n1 c0 c1 j A0 A1 W (HL.out.below h).1 (HP.out.below h).1 (by omega) (by omega)).mono fun _ _ ⟨he, hq⟩ => ⟨he, drew_below hq, h.trans ((drew_below hq).mono h.size)⟩
      have HF := Lib.hid (find_c L0 L1 n0 n1 c0 c1 A0 A1 w1 (HL.out.below hb1) (HP.out.below hb1) hn)
      have HL0 := Lib.hid HL.out.len
      have HL1 := Lib.hid HP.out.len
      clear hm0
      go_wp2_with fail
      with_reducible refine (HF.out).mono ?_
      rintro e w2 ⟨⟨A2, q, c2, rfl, q2⟩, hb2⟩
      have hb02 := hb1.trans (hb2.mono hb1z)
      have hb02z := hb02.size
      have HQ2 := Lib.hid q2
      have HQl := Lib.hid q2.len
      have hq300 : q ≤ 300 := by have := occ_len L0 L1; have := HL0.out; have := HQl.out; omega
      clear q2
      go_wp2
      go_loopw [5, 24] (fun ve vi wr => ∃ k e : Nat, k ≤ q ∧ vi = .int .i64 k ∧ ve = .int .i64 e ∧ e ≤ n0 ∧ occ L0 L1 e = (occ L0 L1 0).drop k ∧ Below w.heap.size w wr ∧ Below w2.heap.size w2 wr) (fun _ i _ => q - (intOf i).toNat)
      case atStart => exact ⟨0, 0, Nat.zero_le _, rfl, rfl, Nat.zero_le _, rfl, hb02, Below.refl _ _⟩
      case round =>
        obtain ⟨k, en, hk, rfl, rfl, hen, ho, hbw, hbr⟩ := hrel
        have hbwz := hbw.size
        have HO := Lib.hid ho
        clear ho
        by_cases hlt : k < q
        · obtain ⟨b, off, rfl, _, hcell⟩ := HQ2.out.1.num hbr hlt
          obtain ⟨g1, g2, g3, g4⟩ := occ_next HNE.out (by have := HQl.out; omega) HO.out
          have g5 := stands_lt g2
          obtain ⟨a, ha⟩ : ∃ a, a = nt (occ L0 L1 0) k := ⟨_, rfl⟩
          rw [← ha] at hcell g1 g2 g3 g4 g5
          have han : a + n1 ≤ n0 := by have := HL0.out; have := HL1.out; omega
          have h1 := HSt.out wr a hbw (by omega)
          rw [g2] at h1
          have HS1 := Lib.hid h1
          have HG3 := Lib.hid g3
          have HG4 := Lib.hid g4
          have hdn : decide (a < en) = false := by rw [decide_eq_false_iff_not]; omega
          clear ha g2 g3 g4 g5 h1
          go_wp2_with fail
          with_reducible refine (HS1.out).mono ?_
          rintro e w3 ⟨rfl, hb3, hb03⟩
          have hb23 := hbr.trans (hb3.mono hbr.size)
          clear hcell hb3
          go_wp2
          go_loopw [8] (fun vj wr2 => ∃ j : Nat, en ≤ j ∧ j ≤ a ∧ vj = .int .i64 j ∧ Below w.heap.size w wr2 ∧ Below w2.heap.size w2 wr2) (fun i _ => a - (intOf i).toNat)
          case atStart => exact ⟨en, Nat.le_refl _, g1, rfl, hb03, hb23⟩
          case round =>
            obtain ⟨j, hj1, hj2, rfl, hj3, hj4⟩ := hrel
            by_cases hja : j < a
            · have h1 := HSt.out _ j hj3 (by omega)
              rw [HG3.out j hj1 hja] at h1
              have HS2 := Lib.hid h1
              clear h1
              go_wp2_with fail
              with_reducible refine (HS2.out).mono ?_
              rintro e w4 ⟨rfl, hb4, hb04⟩
              have hb24 := hj4.trans (hb4.mono hj4.size)
              clear hb4
              go_wp2
              go_roundw
              case rel => exact ⟨j + 1, by omega, by omega, by go_num, hb04, hb24⟩
              case measure => simp [intOf]; omega
            · go_wp2
              go_roundw
              case rel => exact ⟨k + 1, a + n1, by omega, by go_num, by go_num, by omega, by rw [← HL1.out]; exact HG4.out, hj3, hj4⟩
              case measure => simp [intOf]; omega
        · have HNo := Lib.hid (occ_none HNE.out en (by rw [HO.out, List.drop_of_length_le (by have := HQl.out; omega)]))
          go_wp2
          go_loopw [9] (fun vj wr2 => ∃ j : Nat, en ≤ j ∧ j ≤ n0 ∧ vj = .int .i64 j ∧ Below w.heap.size w wr2) (fun i _ => n0 - (intOf i).toNat)
          case atStart => exact ⟨en, Nat.le_refl _, hen, rfl, hbw⟩
          case round =>
            obtain ⟨j, hj1, hj2, rfl, hj3⟩ := hrel
            by_cases hja : j < n0
            · have h1 := HSt.out _ j hj3 (by omega)
              rw [HNo.out j hj1] at h1
              have HS2 := Lib.hid h1
              clear h1
              go_wp2_with fail
              with_reducible refine (HS2.out).mono ?_
              rintro e w4 ⟨rfl, _, hb04⟩
              go_wp2
              go_roundw
              case rel => exact ⟨j + 1, by omega, by omega, by go_num, hb04⟩
              case measure => simp [intOf]; omega
            · have HA2 := Lib.hid (HAw.out _ hj3)
              go_wp2_with (go_at_call 10; ((with_reducible refine (HA2.out).mono ?_); rintro e w4 ⟨rfl, hb4⟩))
              go_ret
              exact ⟨rfl, hb4⟩
end Go.Proofs.Ytphehcbjegfifaa
