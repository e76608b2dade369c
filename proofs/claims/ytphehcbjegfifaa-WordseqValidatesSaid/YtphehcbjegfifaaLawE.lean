/-
  WordseqValidates: the law returns true for every sequence of strings.
-/
import Derived.Test.YtphehcbjegfifaaJn
import Derived.Test.YtphehcbjegfifaaLong
import Derived.Test.YtphehcbjegfifaaAwk
namespace Go.Proofs.Ytphehcbjegfifaa
open Go.RowKit (wrap32 wrap64 intOf Hid Below)
open Occ

theorem rows_one (w : World) (A : Option Addr) (n c : Nat) (L : List Str) (hl : Sq w A n c L) :
    RowsAt (w.alloc (.cells #[.slice A n c] 22)) w.heap.size [(A, n, c, L)] := by
  have hb := alloc_below w (.cells #[.slice A n c] 22)
  intro k hk
  obtain rfl : k = 0 := by simp at hk; omega
  exact ⟨by rw [World.cell?_alloc_at _ _ _ _ rfl]; rfl, (hl.below hb).1.1, hl.1.2.2.2.1⟩
def LongOne (n : Nat) (e : Ending) : Prop := ∃ b, e = .returned (.bool b) ∧ (b = false → n ≤ 300)
theorem long_one (w : World) (A : Option Addr) (n c : Nat) (L : List Str) (hl : Sq w A n c L) :
    Calls Try.prog 9 #[.slice (some ⟨w.heap.size, 0, none⟩) 1 1] (w.alloc (.cells #[.slice A n c] 22)) fun e w' => LongOne n e ∧ Below w.heap.size w w' :=
  (long_any [(A, n, c, L)] 1 w.heap.size _ rfl (by omega) (rows_one w A n c L hl)).mono fun e w' ⟨⟨b, he, h⟩, hw⟩ =>
    ⟨⟨b, he, fun hb => h hb 0 (by simp)⟩, by rw [← hw]; exact alloc_below w _⟩

set_option maxHeartbeats 2000000 in
theorem lawValidates {L0 : List Str} {n0 c0 : Nat} {A0 : Option Addr} {w : World} (h0 : Sq w A0 n0 c0 L0) :
    Calls Try.prog 3 #[.slice A0 n0 c0] w fun e w' => e = .returned (.bool true) ∧ Below w.heap.size w w' := by
  have HLo := Lib.hid (long_one w A0 n0 c0 L0 h0)
  have HL := Lib.hid h0
  clear h0
  go_enter Try.func3, Try.ntmps3
  go_wp2_with fail
  with_reducible refine (HLo.out).mono ?_
  rintro e w1 ⟨⟨b, rfl, h300⟩, hb1⟩
  have hb1z := hb1.size
  have HAw : Hid (∀ W, Calls Try.prog 10 #[] W fun e w' => e = .returned (.bool true) ∧ Below W.heap.size W w') := Lib.hid fun W => awake_any W
  clear h300
  cases b with
  | true =>
    go_wp2_with (go_at_call 10; ((with_reducible refine (HAw.out _).mono ?_); rintro e w2 ⟨rfl, hb2⟩))
    go_ret
    exact ⟨rfl, hb1.trans (hb2.mono hb1z)⟩
  | false =>
    have HM : Hid (∀ W, Below w.heap.size w W → Calls Try.prog 11 #[.slice A0 n0 c0] W fun e w' => e = .returned (.bool (mayB L0)) ∧ W = w') := Lib.hid fun W h => may_any L0 n0 c0 A0 W (HL.out.below h)
    have HV : Hid (∀ W, Below w.heap.size w W → Calls Try.prog 13 #[.slice A0 n0 c0] W fun e w' => e = .returned (.bool (mayB L0)) ∧ W = w') := Lib.hid fun W h => wvalid_any L0 n0 c0 A0 W (HL.out.below h)
    have HJ : Hid (∀ W, Below w.heap.size w W → Calls Try.prog 14 #[.slice A0 n0 c0] W fun e w' => e = .returned (.string (wantB L0)) ∧ Below w.heap.size w w') := Lib.hid fun W h => (wjoin_any L0 n0 c0 A0 W (HL.out.below h)).mono fun _ _ ⟨he, h2⟩ => ⟨he, h.trans (h2.mono h.size)⟩
    cases hm : mayB L0 with
    | false =>
      rw [hm] at HM HV
      have hW : wantB L0 = ⟨#[]⟩ := by unfold wantB; rw [hm]; rfl
      rw [hW] at HJ
      have hE0 := str_eq ⟨#[]⟩ ⟨#[]⟩
      rw [decide_eq_true rfl] at hE0
      clear hm hW
      go_wp2_with (first
        | (go_at_call 11; ((with_reducible refine (HM.out _ (by assumption)).mono ?_); rintro e w2 ⟨rfl, rfl⟩))
        | (go_at_call 13; ((with_reducible refine (HV.out _ (by assumption)).mono ?_); rintro e w2 ⟨rfl, rfl⟩))
        | (go_at_call 14; ((with_reducible refine (HJ.out _ (by assumption)).mono ?_); rintro e w3 ⟨rfl, hb3⟩))
        | (go_at_call 10; ((with_reducible refine (HAw.out _).mono ?_); rintro e w4 ⟨rfl, hb4⟩)))
      go_ret
      exact ⟨by first | rfl | (apply ret_bool; simp), hb3.trans (hb4.mono hb3.size)⟩
    | true =>
      have HT : Hid (∀ W, Below w.heap.size w W → Calls Try.prog 12 #[.slice A0 n0 c0] W fun e w' => e = .returned (.string (mkB (joinB L0))) ∧ W = w') := Lib.hid fun W h => text_any L0 n0 c0 A0 W (HL.out.below h) hm
      rw [hm] at HM HV
      have hW : wantB L0 = mkB (joinB L0) := by unfold wantB; rw [hm]; rfl
      rw [hW] at HJ
      obtain ⟨J, hJ⟩ : ∃ J, J = mkB (joinB L0) := ⟨_, rfl⟩
      rw [← hJ] at HJ HT
      have hE0 := str_eq J J
      rw [decide_eq_true rfl] at hE0
      clear hm hW hJ
      go_wp2_with (first
        | (go_at_call 11; ((with_reducible refine (HM.out _ (by assumption)).mono ?_); rintro e w2 ⟨rfl, rfl⟩))
        | (go_at_call 12; ((with_reducible refine (HT.out _ (by assumption)).mono ?_); rintro e w2 ⟨rfl, rfl⟩))
        | (go_at_call 13; ((with_reducible refine (HV.out _ (by assumption)).mono ?_); rintro e w2 ⟨rfl, rfl⟩))
        | (go_at_call 14; ((with_reducible refine (HJ.out _ (by assumption)).mono ?_); rintro e w3 ⟨rfl, hb3⟩))
        | (go_at_call 10; ((with_reducible refine (HAw.out _).mono ?_); rintro e w4 ⟨rfl, hb4⟩)))
      go_ret
      exact ⟨by first | rfl | (apply ret_bool; simp), hb3.trans (hb4.mono hb3.size)⟩
end Go.Proofs.Ytphehcbjegfifaa
