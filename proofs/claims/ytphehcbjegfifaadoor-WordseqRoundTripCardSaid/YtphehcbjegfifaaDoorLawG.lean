/-
  WordseqRoundTrip: the law returns true for every sequence of strings.
-/
import Derived.Test.YtphehcbjegfifaaDoorLawF
namespace Go.Proofs.YtphehcbjegfifaaDoor
open Go.RowKit (wrap32 wrap64 intOf Hid Below)
open Occ

theorem want_small {L : List Str} (h : mayB L = true) : (wantB L).size ≤ 100000 := by
  obtain ⟨h256, h24⟩ := may_parts h
  have hm := join_most h24 L.length (Nat.le_refl _)
  rw [List.take_length] at hm
  unfold wantB
  rw [if_pos h]
  show (joinB L).length ≤ 100000
  omega

set_option maxHeartbeats 2000000 in
theorem lawRound {L0 : List Str} {n0 c0 : Nat} {A0 : Option Addr} {w : World} (hT : EnvW w) (h0 : Sq w A0 n0 c0 L0) :
    Calls Tryd.prog 4 #[.slice A0 n0 c0] w fun e w' => e = .returned (.bool true) ∧ Below w.heap.size w w' := by
  have HLo := Lib.hid (long_one w A0 n0 c0 L0 h0)
  have HL := Lib.hid h0
  have HT := Lib.hid hT
  have HAw : Hid (∀ W, Calls Tryd.prog 5 #[] W fun e w' => e = .returned (.bool true) ∧ Below W.heap.size W w') := Lib.hid fun W => awake_any W
  have HM : Hid (∀ W, Below w.heap.size w W → Calls Tryd.prog 12 #[.slice A0 n0 c0] W fun e w' => e = .returned (.bool (mayB L0)) ∧ W = w') := Lib.hid fun W h => may_any L0 n0 c0 A0 W (HL.out.below h)
  have HJ : Hid (∀ W, Below w.heap.size w W → Calls Tryd.prog 9 #[.slice A0 n0 c0] W fun e w' => e = .returned (.string (wantB L0)) ∧ Below w.heap.size w w') := Lib.hid fun W h => (wjoin_any L0 n0 c0 A0 W (HL.out.below h)).mono fun _ _ ⟨he, h2⟩ => ⟨he, h.trans (h2.mono h.size)⟩
  clear h0 hT
  go_enter Tryd.func4, Tryd.ntmps4
  go_wp2_with fail
  with_reducible refine (HLo.out).mono ?_
  rintro e w1 ⟨⟨b, rfl, h300⟩, hb1⟩
  clear h300
  cases b with
  | true =>
    go_wp2_with (go_at_call 5; ((with_reducible refine (HAw.out _).mono ?_); rintro e w2 ⟨rfl, hb2⟩))
    go_ret
    exact ⟨rfl, hb1.trans (hb2.mono hb1.size)⟩
  | false =>
    cases hm : mayB L0 with
    | false =>
      rw [hm] at HM
      clear hm
      go_wp2_with (first
        | (go_at_call 12; ((with_reducible refine (HM.out _ (by assumption)).mono ?_); rintro e w2 ⟨rfl, rfl⟩))
        | (go_at_call 5; ((with_reducible refine (HAw.out _).mono ?_); rintro e w2 ⟨rfl, hb2⟩)))
      go_ret
      exact ⟨rfl, hb1.trans (hb2.mono hb1.size)⟩
    | true =>
      rw [hm] at HM
      have HCode := Lib.hid (code_join hm)
      have HSp : Hid (∀ W, Below w.heap.size w W → Calls Tryd.prog 6 #[.string (wantB L0)] W fun e w' => SpRet (wantB L0) e w' ∧ Below w.heap.size w w') := Lib.hid fun W h => (wsplit_any (wantB L0) W (HT.out.below h) (want_small hm)).mono fun _ _ ⟨he, h2⟩ => ⟨he, h.trans (h2.mono h.size)⟩
      obtain ⟨J, hJ⟩ : ∃ J, J = wantB L0 := ⟨_, rfl⟩
      rw [← hJ] at HJ HSp HCode
      clear hm hJ
      go_wp2_with fail
      with_reducible refine (HM.out _ (by assumption)).mono ?_
      rintro e w2 ⟨rfl, rfl⟩
      go_wp2_with fail
      with_reducible refine (HJ.out _ (by assumption)).mono ?_
      rintro e w3 ⟨rfl, hb3⟩
      go_wp2_with fail
      with_reducible refine (HSp.out _ (by assumption)).mono ?_
      rintro e w4 ⟨⟨B, m, d, rfl, hs⟩, hb4⟩
      rw [HCode.out.1]
      rw [HCode.out.2] at hs
      have HS := Lib.hid hs
      have hb4z := hb4.size
      have HSame := Lib.hid (same_yes L0 m n0 d c0 B A0 w4 hs (HL.out.below hb4))
      have HEq : Hid (∀ W, Below w4.heap.size w4 W → Calls Tryd.prog 13 #[.slice B m d, .slice A0 n0 c0] W fun e w' => e = .returned (.bool true) ∧ Below W.heap.size W w') := Lib.hid fun W h => by
        have h1 := weq_any L0 L0 W.heap.size m n0 d c0 B A0 W (HS.out.below h).1 ((HL.out.below hb4).below h).1
        rw [decide_eq_true rfl] at h1
        exact h1.mono fun _ _ ⟨he, hq⟩ => ⟨he, drew_below hq⟩
      clear hs
      go_wp2_with (first
        | (go_at_call 8; ((with_reducible refine (HSame.out).mono ?_); rintro e w5 ⟨rfl, hb5⟩))
        | (go_at_call 13; ((with_reducible refine (HEq.out _ (by assumption)).mono ?_); rintro e w6 ⟨rfl, hb6⟩))
        | (go_at_call 5; ((with_reducible refine (HAw.out _).mono ?_); rintro e w7 ⟨rfl, hb7⟩)))
      go_ret
      have hb56 := hb5.trans (hb6.mono hb5.size)
      have hb57 := hb56.trans (hb7.mono hb56.size)
      exact ⟨by first | rfl | (apply ret_bool; simp), hb4.trans (hb57.mono hb4z)⟩
end Go.Proofs.YtphehcbjegfifaaDoor
