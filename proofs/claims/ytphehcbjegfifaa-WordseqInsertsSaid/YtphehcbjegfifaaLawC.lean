/-
  The walks of the laws WordseqReplaces and WordseqInserts.
-/
import Derived.Test.YtphehcbjegfifaaLawB
namespace Go.Proofs.Ytphehcbjegfifaa
open Go.RowKit (wrap32 wrap64 intOf Hid Below)
open Occ

theorem replace_c (L P F : List Str) (n m f c d k : Nat) (A D E : Option Addr) (nth : Int) (w : World) (hl : Sq w A n c L) (hp : Sq w D m d P) (hf : Sq w E f k F) (hn : n ≤ 100000) (hF : f ≤ 1000) :
    Calls Try.prog 21 #[.slice A n c, .slice D m d, .slice E f k, .int .i64 nth] w fun e w' => RetSeqN (repl L P F nth) e w' ∧ Below w.heap.size w w' :=
  (replace_any L P F n m f c d k A D E nth w hl hp hf hn hF).mono fun _ _ ⟨A', n', c', he, hs, hb⟩ => ⟨⟨A', n', c', he, hs⟩, hb⟩
theorem insert_c (L P F : List Str) (n m f c d k : Nat) (A D E : Option Addr) (nth : Int) (w : World) (hl : Sq w A n c L) (hp : Sq w D m d P) (hf : Sq w E f k F) (hn : n ≤ 100000) (hF : m + f ≤ 1000) :
    Calls Try.prog 23 #[.slice A n c, .slice D m d, .slice E f k, .int .i64 nth] w fun e w' => RetSeqN (insr L P F nth) e w' ∧ Below w.heap.size w w' :=
  (insert_any L P F n m f c d k A D E nth w hl hp hf hn hF).mono fun _ _ ⟨A', n', c', he, hs, hb⟩ => ⟨⟨A', n', c', he, hs⟩, hb⟩

set_option maxHeartbeats 4000000 in
set_option maxRecDepth 100000 in
theorem lawReplaces {L0 L1 L2 : List Str} {n0 n1 n2 c0 c1 c2 : Nat} {A0 A1 A2 : Option Addr} {a3 : Int} {w : World} (h0 : Sq w A0 n0 c0 L0) (h1 : Sq w A1 n1 c1 L1) (h2 : Sq w A2 n2 c2 L2) :
    Calls Try.prog 6 #[.slice A0 n0 c0, .slice A1 n1 c1, .slice A2 n2 c2, .int .i64 a3] w fun e w' => e = .returned (.bool true) ∧ Below w.heap.size w w' := by
  obtain ⟨i0, hi, hz0, hz1, hz2⟩ := info_parts info_str
  have HLo := Lib.hid (long_three w A0 A1 A2 n0 c0 n1 c1 n2 c2 L0 L1 L2 h0 h1 h2)
  have HL := Lib.hid h0
  have HP := Lib.hid h1
  have HF := Lib.hid h2
  have HAw : Hid (∀ W, Below w.heap.size w W → Calls Try.prog 10 #[] W fun e w' => e = .returned (.bool true) ∧ Below w.heap.size w w') := Lib.hid fun W h =>
    (awake_any W).mono fun _ _ ⟨he, hb⟩ => ⟨he, h.trans (hb.mono h.size)⟩
  clear h0 h1 h2
  go_enter Try.func6, Try.ntmps6
  go_wp2_with fail
  with_reducible refine (HLo.out).mono ?_
  rintro e w1 ⟨⟨b, rfl, h300⟩, hb1⟩
  have hb1z := hb1.size
  have HA1 := Lib.hid (HAw.out w1 hb1)
  cases b with
  | true =>
    clear h300
    go_wp2_with (go_at_call 10; ((with_reducible refine (HA1.out).mono ?_); rintro e w2 ⟨rfl, hb2⟩))
    go_ret
    exact ⟨rfl, hb2⟩
  | false =>
    obtain ⟨hn, hm, hf⟩ := h300 rfl
    clear h300
    by_cases h40 : 40 < n2
    · go_wp2_with (go_at_call 10; ((with_reducible refine (HA1.out).mono ?_); rintro e w2 ⟨rfl, hb2⟩))
      go_ret
      exact ⟨rfl, hb2⟩
    · have HOw := Lib.hid (own_empty w1 9 1)
      have hb0 := alloc_below w1 (.cells #[] 9)
      have hb0z : w1.heap.size ≤ (w1.alloc (.cells #[] 9)).heap.size := hb0.size
      have HV1 := Lib.hid ((HL.out.below hb1).below hb0).1.1
      go_wp2_with (at_builtin; refine wpList_append_vals _ rfl _ _ 22 rfl w1.heap.size 9 i0 (.string ⟨#[]⟩) 16 Try.underlying22 hi hz0 hz1 hz2 rfl _ _ _ rfl HOw.out _ _ _ _ _ rfl HV1.out (sv_one _) (by unfold maxLen; omega) (by omega) hb0z ?_)
      intro A' c' w2 hown' hgrow
      have hb12 := below_own HOw.out hb0 hb0z hgrow
      have HWas : Hid (Sq w2 A' n0 c' L0) := Lib.hid (Sq.of_own (by simpa [sv] using hown') (by omega))
      have hb2 := hb1.trans (hb12.mono hb1z)
      have hb2z := hb2.size
      have HR := Lib.hid (replace_c L0 L1 L2 n0 n1 n2 c0 c1 c2 A0 A1 A2 a3 w2 (HL.out.below hb2) (HP.out.below hb2) (HF.out.below hb2) (by omega) (by omega))
      clear hown' hgrow
      go_wp2_with fail
      with_reducible refine (HR.out).mono ?_
      rintro e w3 ⟨⟨A3, n3, c3, rfl, hs3⟩, hb23⟩
      have hb3 := hb2.trans (hb23.mono hb2z)
      have hb3z := hb3.size
      have HS3 := Lib.hid hs3
      have HWas3 := Lib.hid (HWas.out.below hb23)
      have HRr := Lib.hid (refreplace_any L0 L1 L2 n0 n1 n2 c0 c1 c2 A0 A1 A2 a3 w3 (HL.out.below hb3) (HP.out.below hb3) (HF.out.below hb3) (by omega) (by omega))
      clear hs3
      go_wp2_with fail
      with_reducible refine (HRr.out).mono ?_
      rintro e w4 ⟨⟨A4, n4, c4, rfl, hs4⟩, hb34⟩
      have hb4 := hb3.trans (hb34.mono hb3z)
      have hb4z := hb4.size
      have HS := Lib.hid (same_yes _ n3 n4 c3 c4 A3 A4 w4 (HS3.out.below hb34) hs4)
      have HWas4 := Lib.hid (HWas3.out.below hb34)
      obtain ⟨Q, hQ⟩ : ∃ Q : Nat, Q = (repl L0 L1 L2 a3).2 := ⟨_, rfl⟩
      rw [← hQ]
      have hqq : ((Q : Int) == (Q : Int)) = true := by simp
      clear hs4 hQ
      go_wp2_with fail
      with_reducible refine (HS.out).mono ?_
      rintro e w5 ⟨rfl, hb45⟩
      have hb5 := hb4.trans (hb45.mono hb4z)
      have hb5z := hb5.size
      have HS2 := Lib.hid (same_yes _ n0 n0 c0 c' A0 A' w5 (HL.out.below hb5) (HWas4.out.below hb45))
      go_wp2_with fail
      with_reducible refine (HS2.out).mono ?_
      rintro e w6 ⟨rfl, hb56⟩
      have hb6 := hb5.trans (hb56.mono hb5z)
      have HA6 := Lib.hid (HAw.out w6 hb6)
      go_wp2_with (go_at_call 10; ((with_reducible refine (HA6.out).mono ?_); rintro e w7 ⟨rfl, hb7⟩))
      go_ret
      exact ⟨rfl, hb7⟩

set_option maxHeartbeats 4000000 in
set_option maxRecDepth 100000 in
theorem lawInserts {L0 L1 L2 : List Str} {n0 n1 n2 c0 c1 c2 : Nat} {A0 A1 A2 : Option Addr} {a3 : Int} {w : World} (h0 : Sq w A0 n0 c0 L0) (h1 : Sq w A1 n1 c1 L1) (h2 : Sq w A2 n2 c2 L2) :
    Calls Try.prog 7 #[.slice A0 n0 c0, .slice A1 n1 c1, .slice A2 n2 c2, .int .i64 a3] w fun e w' => e = .returned (.bool true) ∧ Below w.heap.size w w' := by
  have HLo := Lib.hid (long_three w A0 A1 A2 n0 c0 n1 c1 n2 c2 L0 L1 L2 h0 h1 h2)
  have HL := Lib.hid h0
  have HP := Lib.hid h1
  have HF := Lib.hid h2
  have HAw : Hid (∀ W, Below w.heap.size w W → Calls Try.prog 10 #[] W fun e w' => e = .returned (.bool true) ∧ Below w.heap.size w w') := Lib.hid fun W h =>
    (awake_any W).mono fun _ _ ⟨he, hb⟩ => ⟨he, h.trans (hb.mono h.size)⟩
  clear h0 h1 h2
  go_enter Try.func7, Try.ntmps7
  go_wp2_with fail
  with_reducible refine (HLo.out).mono ?_
  rintro e w1 ⟨⟨b, rfl, h300⟩, hb1⟩
  have hb1z := hb1.size
  have HA1 := Lib.hid (HAw.out w1 hb1)
  cases b with
  | true =>
    clear h300
    go_wp2_with (go_at_call 10; ((with_reducible refine (HA1.out).mono ?_); rintro e w2 ⟨rfl, hb2⟩))
    go_ret
    exact ⟨rfl, hb2⟩
  | false =>
    obtain ⟨hn, hm, hf⟩ := h300 rfl
    clear h300
    by_cases h40 : 40 < n2
    · go_wp2_with (go_at_call 10; ((with_reducible refine (HA1.out).mono ?_); rintro e w2 ⟨rfl, hb2⟩))
      go_ret
      exact ⟨rfl, hb2⟩
    · have HR := Lib.hid (insert_c L0 L1 L2 n0 n1 n2 c0 c1 c2 A0 A1 A2 a3 w1 (HL.out.below hb1) (HP.out.below hb1) (HF.out.below hb1) (by omega) (by omega))
      go_wp2_with fail
      with_reducible refine (HR.out).mono ?_
      rintro e w3 ⟨⟨A3, n3, c3, rfl, hs3⟩, hb23⟩
      have hb3 := hb1.trans (hb23.mono hb1z)
      have hb3z := hb3.size
      have HS3 := Lib.hid hs3
      have HRr := Lib.hid (behind_any L0 L1 L2 n0 n1 n2 c0 c1 c2 A0 A1 A2 a3 w3 (HL.out.below hb3) (HP.out.below hb3) (HF.out.below hb3) (by omega) (by omega))
      clear hs3
      go_wp2_with fail
      with_reducible refine (HRr.out).mono ?_
      rintro e w4 ⟨⟨A4, n4, c4, rfl, hs4⟩, hb34⟩
      have hb4 := hb3.trans (hb34.mono hb3z)
      have hb4z := hb4.size
      have HS := Lib.hid (same_yes _ n3 n4 c3 c4 A3 A4 w4 (HS3.out.below hb34) hs4)
      obtain ⟨Q, hQ⟩ : ∃ Q : Nat, Q = (insr L0 L1 L2 a3).2 := ⟨_, rfl⟩
      rw [← hQ]
      have hqq : ((Q : Int) == (Q : Int)) = true := by simp
      clear hs4 hQ
      go_wp2_with fail
      with_reducible refine (HS.out).mono ?_
      rintro e w5 ⟨rfl, hb45⟩
      have hb5 := hb4.trans (hb45.mono hb4z)
      have HA6 := Lib.hid (HAw.out w5 hb5)
      go_wp2_with (go_at_call 10; ((with_reducible refine (HA6.out).mono ?_); rintro e w7 ⟨rfl, hb7⟩))
      go_ret
      exact ⟨rfl, hb7⟩
end Go.Proofs.Ytphehcbjegfifaa
