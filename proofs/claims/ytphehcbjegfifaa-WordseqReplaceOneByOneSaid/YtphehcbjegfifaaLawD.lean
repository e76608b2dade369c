/-
  The walk of the law WordseqReplaceOneByOne.
-/
import Derived.Test.YtphehcbjegfifaaLawC
namespace Go.Proofs.Ytphehcbjegfifaa
open Go.RowKit (wrap32 wrap64 intOf Hid Below)
open Occ

theorem upto_len (L P F : List Str) (k : Nat) (hL : L.length ≤ 60) (hF : F.length ≤ 20) : (upto L P F k).length ≤ 4860 := by
  unfold upto
  have h1 := put_len L P.length F ((occ L P 0).drop k) 0
  have h2 : ((occ L P 0).drop k).length ≤ 60 := by rw [List.length_drop]; have := occ_len L P; omega
  have h3 : (((occ L P 0).drop k).length + 1) * L.length ≤ 61 * 60 := Nat.mul_le_mul (by omega) hL
  have h4 : ((occ L P 0).drop k).length * F.length ≤ 60 * 20 := Nat.mul_le_mul h2 hF
  omega
theorem repl_all (L P F : List Str) : (repl L P F 0).2 = (occ L P 0).length := by
  unfold repl
  rw [chosen_zero]

set_option maxHeartbeats 4000000 in
set_option maxRecDepth 100000 in
theorem lawOneByOne {L0 L1 L2 : List Str} {n0 n1 n2 c0 c1 c2 : Nat} {A0 A1 A2 : Option Addr} {w : World} (h0 : Sq w A0 n0 c0 L0) (h1 : Sq w A1 n1 c1 L1) (h2 : Sq w A2 n2 c2 L2) :
    Calls Try.prog 8 #[.slice A0 n0 c0, .slice A1 n1 c1, .slice A2 n2 c2] w fun e w' => e = .returned (.bool true) ∧ Below w.heap.size w w' := by
  obtain ⟨i0, hi, hz0, hz1, hz2⟩ := info_parts info_str
  have HLo := Lib.hid (long_three w A0 A1 A2 n0 c0 n1 c1 n2 c2 L0 L1 L2 h0 h1 h2)
  have HL := Lib.hid h0
  have HP := Lib.hid h1
  have HF := Lib.hid h2
  have HAw : Hid (∀ W, Below w.heap.size w W → Calls Try.prog 10 #[] W fun e w' => e = .returned (.bool true) ∧ Below w.heap.size w w') := Lib.hid fun W h =>
    (awake_any W).mono fun _ _ ⟨he, hb⟩ => ⟨he, h.trans (hb.mono h.size)⟩
  clear h0 h1 h2
  go_enter Try.func8, Try.ntmps8
  go_wp2_with fail
  with_reducible refine (HLo.out).mono ?_
  rintro e w1 ⟨⟨b, rfl, h300⟩, hb1⟩
  have hb1z := hb1.size
  have HA1 := Lib.hid (HAw.out w1 hb1)
  cases b with
  | true =>
    clear h300
    go_wp2_with (go_at_call 10; ((with_reducible refine (HA1.out).mono ?_); rintro e w2 ⟨rfl, hb2⟩))
    go_ret
    exact ⟨rfl, hb2⟩
  | false =>
    obtain ⟨hn, hm, hf⟩ := h300 rfl
    clear h300
    by_cases h60 : 60 < n0
    · go_wp2_with (go_at_call 10; ((with_reducible refine (HA1.out).mono ?_); rintro e w2 ⟨rfl, hb2⟩))
      go_ret
      exact ⟨rfl, hb2⟩
    · by_cases h20 : 20 < n2
      · go_wp2_with (go_at_call 10; ((with_reducible refine (HA1.out).mono ?_); rintro e w2 ⟨rfl, hb2⟩))
        go_ret
        exact ⟨rfl, hb2⟩
      · have hr := replace_c L0 L1 L2 n0 n1 n2 c0 c1 c2 A0 A1 A2 0 w1 (HL.out.below hb1) (HP.out.below hb1) (HF.out.below hb1) (by omega) (by omega)
        have hL60 : L0.length ≤ 60 := by rw [HL.out.len]; omega
        have hF20 : L2.length ≤ 20 := by rw [HF.out.len]; omega
        have hocc : (occ L0 L1 0).length ≤ 60 := by have := occ_len L0 L1; omega
        have e1 : repl L0 L1 L2 0 = (upto L0 L1 L2 0, (occ L0 L1 0).length) := Prod.ext (upto_all L0 L1 L2).symm (repl_all L0 L1 L2)
        rw [e1] at hr
        obtain ⟨N, hN⟩ : ∃ N, N = (occ L0 L1 0).length := ⟨_, rfl⟩
        have HN := Lib.hid hN
        rw [← hN] at hr hocc
        have HR := Lib.hid hr
        have HLen := Lib.hid (fun k => upto_len L0 L1 L2 k hL60 hF20)
        clear hr e1 hL60 hF20 hN
        go_wp2_with fail
        with_reducible refine (HR.out).mono ?_
        rintro e w2 ⟨⟨A3, n3, c3, rfl, hs3⟩, hb12⟩
        have hb2 := hb1.trans (hb12.mono hb1z)
        have hb2z := hb2.size
        have HS3 := Lib.hid hs3
        have HOw := Lib.hid (own_empty w2 9 1)
        have hb0 := alloc_below w2 (.cells #[] 9)
        have hb0z : w2.heap.size ≤ (w2.alloc (.cells #[] 9)).heap.size := hb0.size
        have HV1 := Lib.hid ((HL.out.below hb2).below hb0).1.1
        clear hs3
        go_wp2_with (at_builtin; refine wpList_append_vals _ rfl _ _ 22 rfl w2.heap.size 9 i0 (.string ⟨#[]⟩) 16 Try.underlying22 hi hz0 hz1 hz2 rfl _ _ _ rfl HOw.out _ _ _ _ _ rfl HV1.out (sv_one _) (by unfold maxLen; omega) (by omega) hb0z ?_)
        intro A' c' w3 hown' hgrow
        have hb23 := below_own HOw.out hb0 hb0z hgrow
        have hb3 := hb2.trans (hb23.mono hb2z)
        have HWas : Hid (Sq w3 A' n0 c' (upto L0 L1 L2 N)) := Lib.hid (by
          rw [HN.out, upto_none]
          exact Sq.of_own (by simpa [sv] using hown') (by omega))
        have HS33 := Lib.hid (HS3.out.below hb23)
        clear hown' hgrow hb23
        go_wp2
        go_loopw [9, 10] (fun vo vk wr => ∃ (k q cc : Nat) (Av : Option Addr), k ≤ N ∧ vk = .int .i64 k ∧ vo = .slice Av q cc ∧ Sq wr Av q cc (upto L0 L1 L2 k) ∧ Below w.heap.size w wr ∧ Below w3.heap.size w3 wr) (fun _ i _ => (intOf i).toNat)
        case atStart => exact ⟨N, n0, c', A', Nat.le_refl _, rfl, rfl, HWas.out, hb3, Below.refl _ _⟩
        case round =>
          obtain ⟨k, q, cc, Av, hk, rfl, rfl, hsq, hbw, hbr⟩ := hrel
          have HSq := Lib.hid hsq
          have hbwz := hbw.size
          clear hsq
          rcases Nat.eq_zero_or_pos k with h0 | h0
          · subst h0
            have hr2 := replace_c L0 L1 L1 n0 n1 n1 c0 c1 c1 A0 A1 A1 0 wr (HL.out.below hbw) (HP.out.below hbw) (HP.out.below hbw) (by omega) (by omega)
            rw [repl_self, ← HN.out] at hr2
            have HR2 := Lib.hid hr2
            clear hr2
            go_wp2_with fail
            with_reducible refine (HR2.out).mono ?_
            rintro e w4 ⟨⟨A4, n4, c4, rfl, hs4⟩, hb4⟩
            have hb04 := hbw.trans (hb4.mono hbwz)
            have hb04z := hb04.size
            have HS4 := Lib.hid hs4
            have hco := count_any L0 L1 w4.heap.size n0 n1 c0 c1 A0 A1 w4 (HL.out.below hb04).1 (HP.out.below hb04).1
            rw [← HN.out] at hco
            have HCo := Lib.hid hco
            have HSq4 := Lib.hid (HSq.out.below hb4)
            have hNN : ((N : Int) == (N : Int)) = true := by simp
            clear hs4 hco
            go_wp2_with fail
            with_reducible refine (HCo.out).mono ?_
            rintro e w5 ⟨rfl, hb5⟩
            have hb05 := hb04.trans (hb5.mono hb04z)
            have hb05z := hb05.size
            have HSa := Lib.hid (same_yes _ q n3 cc c3 Av A3 w5 (HSq4.out.below hb5) ((((HS33.out.below hbr).below hb4)).below hb5))
            go_wp2_with fail
            with_reducible refine (HSa.out).mono ?_
            rintro e w6 ⟨rfl, hb6⟩
            have hb06 := hb05.trans (hb6.mono hb05z)
            have hb06z := hb06.size
            have HSb := Lib.hid (same_yes _ n4 n0 c4 c0 A4 A0 w6 ((HS4.out.below hb5).below hb6) (HL.out.below hb06))
            go_wp2_with fail
            with_reducible refine (HSb.out).mono ?_
            rintro e w7 ⟨rfl, hb7⟩
            have hb07 := hb06.trans (hb7.mono hb06z)
            have HA6 := Lib.hid (HAw.out w7 hb07)
            go_wp2_with (go_at_call 10; ((with_reducible refine (HA6.out).mono ?_); rintro e w8 ⟨rfl, hb8⟩))
            go_ret
            exact ⟨rfl, hb8⟩
          · obtain ⟨j, rfl⟩ : ∃ j, k = j + 1 := ⟨k - 1, by omega⟩
            have hr2 := replace_c (upto L0 L1 L2 (j + 1)) L1 L2 q n1 n2 cc c1 c2 Av A1 A2 ((j : Int) + 1) wr HSq.out (HP.out.below hbw) (HF.out.below hbw) (by rw [← HSq.out.len]; have := HLen.out (j + 1); omega) (by omega)
            rw [repl_one L0 L1 L2 j (by have := HN.out; omega)] at hr2
            have HR2 := Lib.hid hr2
            clear hr2
            go_wp2_with fail
            with_reducible refine (HR2.out).mono ?_
            rintro e w4 ⟨⟨A4, n4, c4, rfl, hs4⟩, hb4⟩
            have HS4 := Lib.hid hs4
            clear hs4
            go_wp2
            go_roundw
            case rel => exact ⟨j, n4, c4, A4, by omega, by go_num, rfl, HS4.out, hbw.trans (hb4.mono hbwz), hbr.trans (hb4.mono hbr.size)⟩
            case measure => simp [intOf]
end Go.Proofs.Ytphehcbjegfifaa
