/-
  The contract of the reference's Behind.
-/
import Derived.Test.YtphehcbjegfifaaRbh
namespace Go.Proofs.Ytphehcbjegfifaa
open Go.RowKit (wrap32 wrap64 intOf Hid Below)
open Occ

theorem insr_none (L F : List Str) (nth : Int) (h : nth ≠ 0) : insr L [] F nth = (L, 0) := by
  unfold insr
  rw [if_neg (fun hh => h hh.2)]
  unfold repl
  have e : chosen (occ L [] 0) nth = [] := by
    rw [occ_nil]
    have := chosen_len [] nth
    exact List.eq_nil_of_length_eq_zero (by simpa using this)
  rw [e]
  rfl
theorem insr_first (L F : List Str) : insr L [] F 0 = (F ++ L, 1) := by
  unfold insr
  rw [if_pos ⟨rfl, rfl⟩]
theorem insr_more (L P F : List Str) (nth : Int) (h : P ≠ []) : insr L P F nth = repl L P (P ++ F) nth := by
  unfold insr
  rw [if_neg (fun hh => h hh.1)]

set_option maxHeartbeats 4000000 in
set_option maxRecDepth 100000 in
theorem behind_any (L P F : List Str) (n m f c d k : Nat) (A D E : Option Addr) (nth : Int) (w : World) (hl : Sq w A n c L) (hp : Sq w D m d P) (hf : Sq w E f k F) (hn : n ≤ 100000) (hF : m + f ≤ 1000) :
    Calls Try.prog 24 #[.slice A n c, .slice D m d, .slice E f k, .int .i64 nth] w fun e w' => RetSeqN (insr L P F nth) e w' ∧ Below w.heap.size w w' := by
  obtain ⟨i0, hi, hz0, hz1, hz2⟩ := info_parts info_str
  have hb0 := alloc_below w (.cells #[] 9)
  have HOw := Lib.hid (own_empty w 9 1)
  have hbz : w.heap.size ≤ (w.alloc (.cells #[] 9)).heap.size := hb0.size
  by_cases hm : m = 0
  · subst hm
    obtain rfl : P = [] := List.eq_nil_of_length_eq_zero hp.len
    by_cases h0 : nth = 0
    · subst h0
      rw [insr_first]
      have HV1 := Lib.hid (hf.below hb0).1.1
      have HV2 : Hid (∀ W, Below w.heap.size w W → ValsAt w.heap.size W A n (sv L)) := Lib.hid fun W h => hl.1.1.below h
      clear hl hp hf
      go_enter Try.func24, Try.ntmps24
      go_wp2_with (at_builtin; refine wpList_append_vals _ rfl (.tmp 18) (.tmp 19) 22 rfl w.heap.size 9 i0 (.string ⟨#[]⟩) 16 Try.underlying22 hi hz0 hz1 hz2 rfl _ _ _ rfl HOw.out _ _ _ _ _ rfl HV1.out (sv_one _) (by unfold maxLen; omega) (by omega) hbz ?_)
      intro A' c' w2 hown' hgrow
      have hb2 := below_own HOw.out hb0 hbz hgrow
      have hb2z := hb2.size
      have HO2 : Hid (w2.ownsRow w.heap.size 9 1 (.slice A' f c') f (sv F)) := Lib.hid (by simpa [sv] using hown')
      have HN2 := Lib.hid (HV2.out _ hb2)
      clear hown' hgrow
      go_wp2_with (at_builtin; refine wpList_append_vals _ rfl (.tmp 20) (.tmp 21) 22 rfl w.heap.size 9 i0 (.string ⟨#[]⟩) 16 Try.underlying22 hi hz0 hz1 hz2 rfl _ _ _ rfl HO2.out _ _ _ _ _ rfl HN2.out (sv_one _) (by unfold maxLen; omega) (by omega) hb2z ?_)
      intro A' c' w3 hown' hgrow
      have hb3 := below_own HO2.out hb2 hb2z hgrow
      rw [← sv_app] at hown'
      have HS := Lib.hid (Sq.of_own hown' (by omega))
      clear hown' hgrow
      go_wp2
      go_ret2
      exact ⟨⟨_, _, _, rfl, HS.out⟩, hb3⟩
    · have e0 : (nth != 0) = true := by simpa using h0
      rw [insr_none L F nth h0]
      have HV1 := Lib.hid (hl.below hb0).1.1
      clear hl hp hf h0
      go_enter Try.func24, Try.ntmps24
      go_wp2_with (at_builtin; refine wpList_append_vals _ rfl _ _ 22 rfl w.heap.size 9 i0 (.string ⟨#[]⟩) 16 Try.underlying22 hi hz0 hz1 hz2 rfl _ _ _ rfl HOw.out _ _ _ _ _ rfl HV1.out (sv_one _) (by unfold maxLen; omega) (by omega) hbz ?_)
      intro A' c' w2 hown' hgrow
      have hb2 := below_own HOw.out hb0 hbz hgrow
      have HS : Hid (Sq w2 A' n c' L) := Lib.hid (Sq.of_own (by simpa [sv] using hown') (by omega))
      clear hown' hgrow
      go_wp2
      go_ret2
      exact ⟨⟨A', n, c', rfl, HS.out⟩, hb2⟩
  · have e1 : ((m : Int) == 0) = false := by rw [beq_eq_false_iff_ne]; omega
    have hP : P ≠ [] := by
      rintro rfl
      exact hm hp.len.symm
    rw [insr_more L P F nth hP]
    have HPF : Hid ((P ++ F).length = m + f) := Lib.hid (by rw [List.length_append, hp.len, hf.len])
    have HV1 := Lib.hid (hp.below hb0).1.1
    have HV2 : Hid (∀ W, Below w.heap.size w W → ValsAt w.heap.size W E f (sv F)) := Lib.hid fun W h => hf.1.1.below h
    have HR : Hid (∀ W A' c', Below w.heap.size w W → Sq W A' (m + f) c' (P ++ F) → Calls Try.prog 22 #[.slice A n c, .slice D m d, .slice A' (m + f) c', .int .i64 nth] W fun e w' => RetSeqN (repl L P (P ++ F) nth) e w' ∧ Below W.heap.size W w') := Lib.hid fun W A' c' h hs =>
      refreplace_any L P (P ++ F) n m (m + f) c d c' A D A' nth W (hl.below h) (hp.below h) hs hn (by omega)
    clear hl hp hf hP hm
    go_enter Try.func24, Try.ntmps24
    go_wp2_with (at_builtin; refine wpList_append_vals _ rfl (.tmp 25) (.tmp 26) 22 rfl w.heap.size 9 i0 (.string ⟨#[]⟩) 16 Try.underlying22 hi hz0 hz1 hz2 rfl _ _ _ rfl HOw.out _ _ _ _ _ rfl HV1.out (sv_one _) (by unfold maxLen; omega) (by omega) hbz ?_)
    intro A' c' w2 hown' hgrow
    have hb2 := below_own HOw.out hb0 hbz hgrow
    have hb2z := hb2.size
    have HO2 : Hid (w2.ownsRow w.heap.size 9 1 (.slice A' m c') m (sv P)) := Lib.hid (by simpa [sv] using hown')
    have HN2 := Lib.hid (HV2.out _ hb2)
    clear hown' hgrow
    go_wp2_with (at_builtin; refine wpList_append_vals _ rfl (.tmp 27) (.tmp 28) 22 rfl w.heap.size 9 i0 (.string ⟨#[]⟩) 16 Try.underlying22 hi hz0 hz1 hz2 rfl _ _ _ rfl HO2.out _ _ _ _ _ rfl HN2.out (sv_one _) (by unfold maxLen; omega) (by omega) hb2z ?_)
    intro A3 c3 w3 hown' hgrow
    have hb3 := below_own HO2.out hb2 hb2z hgrow
    have hb3z := hb3.size
    rw [← sv_app] at hown'
    have HC := Lib.hid (HR.out w3 A3 c3 hb3 (Sq.of_own hown' (by omega)))
    clear hown' hgrow
    go_wp2_with fail
    with_reducible refine (HC.out).mono ?_
    rintro e w4 ⟨⟨A4, n4, c4, rfl, hs⟩, hb4⟩
    have HS := Lib.hid hs
    clear hs
    go_wp2
    go_ret2
    exact ⟨⟨A4, n4, c4, rfl, HS.out⟩, hb3.trans (hb4.mono hb3z)⟩
end Go.Proofs.Ytphehcbjegfifaa
