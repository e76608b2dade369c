/-
  The walk of the law DatesetBoundaries.
-/
import Derived.Test.YtkiafejjcchofaaDoorBds
namespace Go.Proofs.YtkiafejjcchofaaDoor
open Go.RowKit (wrap32 wrap64 intOf Hid Below)
open Spans

/-- Every list of spans has a canonical list. -/
theorem canon_list (L : List Sp) : Is (canon (memB L)) (memB L) := by
  have hp := List.mergeSort_perm (partsOf L) (fun a b : Sp => decide (a.1 ≤ b.1))
  have hs := List.pairwise_mergeSort (le := fun a b : Sp => decide (a.1 ≤ b.1)) (by intro a b c h1 h2; simp at *; omega) (by intro a b; simp; omega) (partsOf L)
  have ho : Ord ((partsOf L).mergeSort fun a b : Sp => decide (a.1 ≤ b.1)) := by
    intro i j hij hj
    have := List.pairwise_iff_getElem.1 hs i j (by omega) hj hij
    unfold fr
    simpa [List.getD, List.getElem?_eq_getElem hj, List.getElem?_eq_getElem (Nat.lt_trans hij hj)] using this
  have h := norm_is L _ hp ho
  rw [← canon_is h]
  exact h
theorem ends_cons (s : Sp) (r : List Sp) : endsS (s :: r) = endOf s ++ endsS r := by simp [endsS]
theorem mem_endOf (s : Sp) (x : Int) : x ∈ endOf s ↔ x = s.1 ∨ (x = s.2 ∧ s.2 ≤ 1048576) := by
  unfold endOf
  by_cases h : s.2 ≤ 1048576
  · rw [if_pos h]; simp [h]
  · rw [if_neg h]; simp [h]
theorem ends_low : ∀ (L : List Sp) (lo : Int), SepL lo L → ∀ x ∈ endsS L, lo < x
  | [], _, _, x, hx => by simp [endsS] at hx
  | s :: r, lo, h, x, hx => by
    obtain ⟨h1, h2, h3, h4⟩ := h
    rw [ends_cons, List.mem_append, mem_endOf] at hx
    rcases hx with (rfl | ⟨rfl, _⟩) | hx
    · exact h1
    · omega
    · have := ends_low r s.2 h4 x hx
      omega
theorem ends_asc : ∀ (L : List Sp) (lo : Int), SepL lo L → (endsS L).Pairwise (· < ·)
  | [], _, _ => by simp [endsS]
  | s :: r, lo, h => by
    obtain ⟨h1, h2, h3, h4⟩ := h
    rw [ends_cons, List.pairwise_append]
    refine ⟨?_, ends_asc r s.2 h4, fun x hx y hy => ?_⟩
    · unfold endOf
      by_cases h : s.2 ≤ 1048576
      · rw [if_pos h]; simp [h2]
      · rw [if_neg h]; simp
    · have hy' := ends_low r s.2 h4 y hy
      rw [mem_endOf] at hx
      rcases hx with rfl | ⟨rfl, _⟩ <;> omega
theorem asc_el {zs : List Int} (h : zs.Pairwise (· < ·)) (i : Nat) (h0 : 0 < i) (hi : i < zs.length) : el zs (i - 1) < el zs i := by
  have := List.pairwise_iff_getElem.1 h (i - 1) i (by omega) hi (by omega)
  unfold el
  simpa [List.getD, List.getElem?_eq_getElem hi, List.getElem?_eq_getElem (show i - 1 < zs.length by omega)] using this
theorem ends_mem : ∀ (L : List Sp) (lo d : Int), SepL lo L → lo < d → d ≤ 1048576 → decide (d ∈ endsS L) = (memB L d != memB L (d - 1))
  | [], _, d, _, _, _ => by simp [endsS, memB]
  | s :: r, lo, d, h, hd, hd2 => by
    obtain ⟨h1, h2, h3, h4⟩ := h
    have hlow := ends_low r s.2 h4 d
    by_cases c1 : d ≤ s.2
    · have n1 : d ∉ endsS r := fun hx => by have := hlow hx; omega
      have e1 : memB r d = false := mem_low r s.2 d h4 c1
      have e2 : memB r (d - 1) = false := mem_low r s.2 (d - 1) h4 (by omega)
      rw [memB, memB, e1, e2, ends_cons, Bool.or_false, Bool.or_false, Bool.eq_iff_iff]
      simp only [List.mem_append, mem_endOf, n1, or_false, decide_eq_true_eq, bne_iff_ne, ne_eq]
      by_cases c2 : s.1 ≤ d ∧ d < s.2 <;> by_cases c3 : s.1 ≤ d - 1 ∧ d - 1 < s.2 <;> simp only [c2, c3] <;> simp <;> omega
    · have ih := ends_mem r s.2 d h4 (by omega) hd2
      rw [mem_tail d (Or.inr (by omega)), mem_tail (d - 1) (Or.inr (by omega)), ← ih, ends_cons, Bool.eq_iff_iff]
      simp only [List.mem_append, mem_endOf, decide_eq_true_eq]
      constructor
      · rintro (h | h)
        · omega
        · exact h
      · exact Or.inr
theorem mem_take_step (zs : List Int) (k : Nat) (hk : k < zs.length) (d : Int) : decide (d ∈ zs.take (k + 1)) = (decide (d ∈ zs.take k) || el zs k == d) := by
  rw [List.take_succ_eq_append_getElem hk, Bool.eq_iff_iff]
  have e : el zs k = zs[k] := by unfold el; simp [List.getD, hk]
  simp only [List.mem_append, List.mem_singleton, decide_eq_true_eq, Bool.or_eq_true, beq_iff_eq, e]
  rw [@eq_comm _ d]
theorem bds_math (R L : List Sp) (d : Int) (h : Is R (memB L)) (h0 : 0 ≤ d) (h1 : d ≤ 1048576) : decide (d ∈ endsS R) = (conB L d != (decide (0 < d) && conB L (d - 1))) := by
  rw [ends_mem R (-1) d h.1 (by omega) h1, h.2 d h0 h1]
  have e : conB L d = memB L d := by simp [conB, h0, h1]
  rw [e]
  by_cases hd : 0 < d
  · have e2 : conB L (d - 1) = memB L (d - 1) := by unfold conB; rw [decide_eq_true (by omega), Bool.true_and]
    rw [e2, h.2 (d - 1) (by omega) (by omega), decide_eq_true hd, Bool.true_and]
  · rw [mem_low R (-1) (d - 1) h.1 (by omega), decide_eq_false hd, Bool.false_and]

set_option maxHeartbeats 4000000 in
set_option maxRecDepth 1000000 in
theorem lawBounds (La : List Sp) (Aa : Option Addr) (N ca : Nat) (d : Int) (w : World) (ht : Tab w) (za : SpansAt w.heap.size w Aa N La) (ka : N ≤ 8796093022207) (_ : -9223372036854775808 ≤ d ∧ d ≤ 9223372036854775807) :
    Calls Tryd.prog 8 #[.slice Aa N ca, .int .i64 d] w fun e w' => e = .returned (.bool true) ∧ Below w.heap.size w w' := by
  by_cases h60 : (N : Int) ≤ 60
  · have la : N ≤ 2000000 := by omega
    have hdec : decide ((N : Int) ≤ 60) = true := by simpa using h60
    have HDec := Lib.hid hdec
    clear hdec
    by_cases hd : 0 ≤ d ∧ d ≤ 1048576
    · obtain ⟨h0, h1⟩ := hd
      have HB : Hid (∀ W, Below w.heap.size w W → Calls Tryd.prog 21 #[.slice Aa N ca] W fun e w' => IntsRet (endsS (canon (memB La))) e w' ∧ Below w.heap.size w w') := Lib.hid fun W h =>
        (bounds_c La N ca Aa W ((za.below h).mono h.size) la).mono fun _ _ ⟨he, hb⟩ => ⟨he, h.trans (hb.mono h.size)⟩
      have HC : Hid (∀ W x, Below w.heap.size w W → Calls Tryd.prog 16 #[.slice Aa N ca, .int .i64 x] W fun e w' => e = .returned (.bool (conB La x)) ∧ Below w.heap.size w w') := Lib.hid fun W x h =>
        (contains_c La N ca Aa x W ((za.below h).mono h.size) la).mono fun _ _ ⟨he, hb⟩ => ⟨he, h.trans (hb.mono h.size)⟩
      have HIs : Hid (Is (canon (memB La)) (memB La)) := Lib.hid (canon_list La)
      clear za
      go_enter Tryd.func8, Tryd.ntmps8
      go_wp2_with (first
        | (go_at_call 9; ((with_reducible refine (awake_c _ ht).mono ?_); rintro e w1 ⟨rfl, h1w⟩))
        | (go_at_call 10; ((with_reducible refine (few1 _ _ _ _ (by omega)).mono ?_); rw [HDec.out]; rintro e w2 ⟨rfl, h2w⟩))
        | (go_at_call 21; ((with_reducible refine (HB.out _ (h1w.trans (h2w.mono h1w.size))).mono ?_); rintro e w3 ⟨⟨A3, n3, c3, rfl, z3, l3⟩, h3w⟩)))
      obtain ⟨zs, hzs⟩ : ∃ zs, zs = endsS (canon (memB La)) := ⟨_, rfl⟩
      rw [← hzs] at z3
      have hIs : Is (canon (memB La)) (memB La) := HIs.out
      have HAsc : Hid (∀ i, 0 < i → i < n3 → el zs (i - 1) < el zs i) := Lib.hid fun i h0 hi => by
        rw [hzs]; exact asc_el (ends_asc _ _ hIs.1) i h0 (by have := z3.1; rw [← hzs]; omega)
      have HMath : Hid (decide (d ∈ zs) = (conB La d != (decide (0 < d) && conB La (d - 1)))) := Lib.hid (by rw [hzs]; exact bds_math _ _ d hIs h0 h1)
      have HL := Lib.hid z3.1
      clear hzs hIs
      go_loopw [6, 7] (fun v i wr => ∃ k : Nat, k ≤ n3 ∧ i = .int .i64 k ∧ v = .bool (decide (d ∈ zs.take k)) ∧ Below w3.heap.size w3 wr) (fun _ i _ => n3 - (intOf i).toNat)
      case atStart => exact ⟨0, Nat.zero_le _, rfl, rfl, Below.refl _ _⟩
      case round =>
        obtain ⟨k, hk, rfl, rfl, hb⟩ := hrel
        have HBw := Lib.hid hb
        by_cases hlt : k < n3
        · have HT := Lib.hid (mem_take_step zs k (by have := HL.out; omega) d)
          obtain ⟨b, off, rfl, hB, hc⟩ := z3.cells hb hlt
          have hck := hc k hlt
          have HD : Hid (∀ q, Below w3.heap.size w3 (wr.drewN q)) := Lib.hid fun q => below_drawn hb q
          cases hin : decide (d ∈ zs.take k)
          · rw [hin] at HT
            rcases Nat.eq_zero_or_pos k with hk0 | hk0
            · subst hk0
              have e0 : ((0 : Nat) : Int) = 0 := rfl
              rw [e0]
              rw [Nat.add_zero] at hck
              clear hc z3 hb hin
              go_wp2
              go_quiet (fail)
              go_wp2
              go_roundw
              case rel => exact ⟨1, by omega, rfl, by rw [HT.out]; rfl, HD.out _⟩
              case measure => simp [intOf]; omega
            · obtain ⟨j, rfl⟩ : ∃ j, k = j + 1 := ⟨k - 1, by omega⟩
              have hcj := hc j (by omega)
              have hasc := HAsc.out (j + 1) (by omega) hlt
              rw [Nat.add_sub_cancel] at hasc
              clear hc z3 hb hin
              go_wp2
              go_quiet (fail)
              go_wp2
              go_roundw
              case rel => exact ⟨j + 2, by omega, by go_num, by rw [HT.out]; rfl, HD.out _⟩
              case measure => simp [intOf]; omega
          · rw [hin] at HT
            rcases Nat.eq_zero_or_pos k with hk0 | hk0
            · subst hk0
              have e0 : ((0 : Nat) : Int) = 0 := rfl
              rw [e0]
              rw [Nat.add_zero] at hck
              clear hc z3 hb hin
              go_wp2
              go_quiet (fail)
              go_wp2
              go_roundw
              case rel => exact ⟨1, by omega, rfl, by rw [HT.out]; rfl, HD.out _⟩
              case measure => simp [intOf]; omega
            · obtain ⟨j, rfl⟩ : ∃ j, k = j + 1 := ⟨k - 1, by omega⟩
              have hcj := hc j (by omega)
              have hasc := HAsc.out (j + 1) (by omega) hlt
              rw [Nat.add_sub_cancel] at hasc
              clear hc z3 hb hin
              go_wp2
              go_quiet (fail)
              go_wp2
              go_roundw
              case rel => exact ⟨j + 2, by omega, by go_num, by rw [HT.out]; rfl, HD.out _⟩
              case measure => simp [intOf]; omega
        · obtain rfl : k = n3 := by omega
          have e : zs.take k = zs := List.take_of_length_le (by have := HL.out; omega)
          rw [e]
          have hb3 : Below w.heap.size w wr := h3w.trans (hb.mono h3w.size)
          clear z3 hb
          by_cases hd0 : 0 < d
          · go_wp2_with (first
              | (go_at_call 16; ((with_reducible refine (HC.out _ d hb3).mono ?_); rintro e w4 ⟨rfl, h4w⟩))
              | (go_at_call 16; ((with_reducible refine (HC.out _ (d - 1) h4w).mono ?_); rintro e w5 ⟨rfl, h5w⟩)))
            go_ret
            refine ⟨ret_bool ?_, h5w⟩
            rw [HMath.out, decide_eq_true hd0]
            cases conB La d <;> cases conB La (d - 1) <;> rfl
          · obtain rfl : d = 0 := by omega
            go_wp2_with (first
              | (go_at_call 16; ((with_reducible refine (HC.out _ 0 hb3).mono ?_); rintro e w4 ⟨rfl, h4w⟩)))
            go_ret
            refine ⟨ret_bool ?_, h4w⟩
            rw [HMath.out]
            simp
    · have hd' : d < 0 ∨ 1048576 < d := by omega
      clear za
      rcases hd' with hd' | hd'
      all_goals
        go_enter Tryd.func8, Tryd.ntmps8
        go_wp2_with (first
          | (go_at_call 9; ((with_reducible refine (awake_c _ ht).mono ?_); rintro e w1 ⟨rfl, h1w⟩))
          | (go_at_call 10; ((with_reducible refine (few1 _ _ _ _ (by omega)).mono ?_); rw [HDec.out]; rintro e w2 ⟨rfl, h2w⟩)))
        go_ret
        exact ⟨rfl, h1w.trans (h2w.mono h1w.size)⟩
  · have hdec : decide ((N : Int) ≤ 60) = false := by simpa using h60
    have HDec := Lib.hid hdec
    clear hdec za
    go_enter Tryd.func8, Tryd.ntmps8
    go_wp2_with (first
      | (go_at_call 9; ((with_reducible refine (awake_c _ ht).mono ?_); rintro e w1 ⟨rfl, h1w⟩))
      | (go_at_call 10; ((with_reducible refine (few1 _ _ _ _ (by omega)).mono ?_); rw [HDec.out]; rintro e w2 ⟨rfl, h2w⟩)))
    go_ret
    exact ⟨rfl, h1w.trans (h2w.mono h1w.size)⟩
end Go.Proofs.YtkiafejjcchofaaDoor
