/-
  The walk of the law DateTexts.
-/
import Derived.Test.YtagapapnpefckaaDoorTexts
namespace Go.Proofs.YtagapapnpefckaaDoor
open Go.RowKit (wrap32 wrap64 intOf Hid Below)
open Cal

theorem d8_toNat (a : Nat) : (d8 a).toNat = 48 + a % 10 := by
  unfold d8
  simp
  omega
theorem d8_lt (a b : Nat) : decide (d8 a < d8 b) = decide (a % 10 < b % 10) := by
  rw [decide_eq_decide, UInt8.lt_iff_toNat_lt, d8_toNat, d8_toNat]
  omega
theorem d8_eq (a b : Nat) : (d8 a == d8 b) = decide (a % 10 = b % 10) := by
  rw [Bool.eq_iff_iff, beq_iff_eq, decide_eq_true_iff, ← UInt8.toNat_inj, d8_toNat, d8_toNat]
  omega
theorem less_txt (a b m n : Nat) (ha : a ≤ 9999) (hb : b ≤ 9999) (hm : m ≤ 999) (hn : n ≤ 999) : Op.bytesLess (txtL a m) (txtL b n) = decide (a < b ∨ (a = b ∧ m < n)) := by
  simp only [txtL, four, three, List.cons_append, List.nil_append, Op.bytesLess, d8_lt, d8_eq]
  have e45 : (decide ((45 : UInt8) < 45)) = false := by decide
  have q45 : ((45 : UInt8) == 45) = true := by decide
  rw [e45, q45, Bool.eq_iff_iff]
  simp only [Bool.or_eq_true, Bool.and_eq_true, decide_eq_true_eq, Bool.false_or, Bool.true_and, Bool.or_false, Bool.and_false]
  have a1 : a / 10 / 10 = a / 100 := by omega
  have a2 : a / 100 / 10 = a / 1000 := by omega
  have b1 : b / 10 / 10 = b / 100 := by omega
  have b2 : b / 100 / 10 = b / 1000 := by omega
  have m1 : m / 10 / 10 = m / 100 := by omega
  have n1 : n / 10 / 10 = n / 100 := by omega
  have a3 : a / 1000 % 10 = a / 1000 := by omega
  have b3 : b / 1000 % 10 = b / 1000 := by omega
  have m3 : m / 100 % 10 = m / 100 := by omega
  have n3 : n / 100 % 10 = n / 100 := by omega
  rw [a3, b3, m3, n3]
  clear a3 b3 m3 n3
  omega
theorem four_dig (a : Nat) : allDig (four a) = true := by
  simp only [allDig, four, List.all_cons, List.all_nil, isDig, d8_toNat, Bool.and_eq_true, decide_eq_true_eq, Bool.and_true]
  omega
theorem three_dig (a : Nat) : allDig (three a) = true := by
  simp only [allDig, three, List.all_cons, List.all_nil, isDig, d8_toNat, Bool.and_eq_true, decide_eq_true_eq, Bool.and_true]
  omega
theorem val_four (a : Nat) (h : a ≤ 9999) : val (four a) = a := by
  simp only [val, four, List.foldl_cons, List.foldl_nil, d8_toNat]
  omega
theorem val_three (a : Nat) (h : a ≤ 999) : val (three a) = a := by
  simp only [val, three, List.foldl_cons, List.foldl_nil, d8_toNat]
  omega
theorem txt_size (y m : Int) : (txt y m).size = 8 := rfl
theorem txt_l4 (y m : Int) : l4 (txt y m) = four y.toNat := (ext4 (txtL y.toNat m.toNat) rfl).trans rfl
theorem txt_l3 (y m : Int) : l3 (txt y m) = three m.toNat := (ext3 (txtL y.toNat m.toNat) rfl).trans rfl
theorem txt_dash (y m : Int) : (((txt y m)[4]'(by rw [txt_size]; omega)).toNat : Int) = 45 := rfl

/-- Parse returns the day whose text it is handed. -/
theorem parse_txt (d Y : Int) (w : World) (h1 : d ≤ 1048576) (hY : 1900 ≤ Y) (hl : fy Y ≤ d) (hr : d < fy (Y + 1)) :
    Calls Tryd.prog 18 #[.string (txt Y (d - fy Y + 1))] w fun e w' => e = .returned (.tuple #[.int .i64 d, .int .i64 0]) ∧ w' = w := by
  have hY2 := year_lt hl h1
  have hm := of_le hY hr
  have hsu := fy_succ Y (by omega)
  have hb := startB_mk hY (by omega : fy Y ≤ 1048576)
  refine (parse_any (txt Y (d - fy Y + 1)) w (txt_size _ _) (txt_dash _ _)).mono fun e w' ⟨he, hw⟩ => ⟨?_, hw⟩
  rw [he]
  unfold refAns
  rw [txt_l4, txt_l3, four_dig, three_dig, val_four _ (by omega), val_three _ (by omega), Int.toNat_of_nonneg (by omega), Int.toNat_of_nonneg (by omega)]
  have hi : inB Y (d - fy Y + 1) = true := by
    unfold inB
    rw [decide_eq_true_iff]
    exact ⟨hb, by omega, by omega, by omega⟩
  rw [hi, show fy Y + (d - fy Y + 1) - 1 = d by omega]
  rfl
theorem format_at (d Y : Int) (w : World) (ht : Tab w) (h1 : d ≤ 1048576) (hY : 1900 ≤ Y) (hl : fy Y ≤ d) (hr : d < fy (Y + 1)) :
    Calls Tryd.prog 17 #[.int .i64 d] w fun e w' => e = .returned (.string (txt Y (d - fy Y + 1))) ∧ Below w.heap.size w w' :=
  (format_yes d w ht (by have := fy_nonneg Y hY; omega) h1).mono fun e w' ⟨⟨y, h0, h2, h3, he⟩, hb⟩ => ⟨by rw [he, fy_unique y Y d h2 h3 hl hr], hb⟩
theorem less_days (a b Y Z : Int) (hY : 1900 ≤ Y) (hl : fy Y ≤ a) (hr : a < fy (Y + 1)) (h1 : a ≤ 1048576) (hZ : 1900 ≤ Z) (kl : fy Z ≤ b) (kr : b < fy (Z + 1)) (h2 : b ≤ 1048576) :
    Op.bytesLess (txt Y (a - fy Y + 1)).toList (txt Z (b - fy Z + 1)).toList = decide (a < b) := by
  have hY2 := year_lt hl h1
  have hZ2 := year_lt kl h2
  have hm := of_le hY hr
  have hn := of_le hZ kr
  rw [Lib.toList_data, Lib.toList_data]
  refine (less_txt _ _ _ _ (by omega) (by omega) (by omega) (by omega)).trans ?_
  rw [decide_eq_decide]
  rcases Int.lt_trichotomy Y Z with h | h | h
  · have := fy_le (Y + 1) Z (by omega); omega
  · subst h; omega
  · have := fy_le (Z + 1) Y (by omega); omega

set_option maxHeartbeats 400000 in
theorem lawTexts_out (a b : Int) (w : World) (ht : Tab w) (hn : a < 0 ∨ 1048576 < a)
    (hB : ∀ W, Tab W → Calls Tryd.prog 17 #[.int .i64 b] W fun e w' => (∃ T, e = .returned (.string T)) ∧ Below W.heap.size W w') :
    Calls Tryd.prog 4 #[.int .i64 a, .int .i64 b] w fun e w' => e = .returned (.bool true) ∧ Below w.heap.size w w' := by
  have HB := Lib.hid hB
  clear hB
  go_enter Tryd.func4, Tryd.ntmps4
  go_wp2_with (first
    | (go_at_call 9; refine (awake_any _ ht).mono ?_; rintro e w' ⟨rfl, hb⟩)
    | (go_at_call 17; ((with_reducible refine (format_no a _ hn).mono ?_); rintro e w' ⟨rfl, rfl⟩))
    | (go_at_call 17; ((with_reducible refine (HB.out _ (ht.below (by assumption))).mono ?_); rintro e w' ⟨⟨T, rfl⟩, hb2⟩))
    | (go_at_call 15; refine (is_no _ _ hn).mono ?_; rintro e w' ⟨rfl, rfl⟩))
  go_ret
  exact ⟨rfl, (by assumption : Below w.heap.size _ _).trans (hb2.mono (Below.size (by assumption)))⟩

set_option maxHeartbeats 1000000 in
theorem lawTexts_in (a b : Int) (S T : ByteArray) (w : World) (ht : Tab w) (h0 : 0 ≤ a) (h1 : a ≤ 1048576) (hb : 0 ≤ b ∧ b ≤ 1048576 → Op.bytesLess S.toList T.toList = decide (a < b))
    (hA : ∀ W, Tab W → Calls Tryd.prog 17 #[.int .i64 a] W fun e w' => e = .returned (.string S) ∧ Below W.heap.size W w')
    (hB : ∀ W, Tab W → Calls Tryd.prog 17 #[.int .i64 b] W fun e w' => e = .returned (.string T) ∧ Below W.heap.size W w')
    (hP : ∀ W, Calls Tryd.prog 18 #[.string S] W fun e w' => e = .returned (.tuple #[.int .i64 a, .int .i64 0]) ∧ w' = W)
    (hT : ∀ W, Calls Tryd.prog 19 #[.int .i64 a] W fun e w' => e = .returned (.string S) ∧ Below W.heap.size W w') :
    Calls Tryd.prog 4 #[.int .i64 a, .int .i64 b] w fun e w' => e = .returned (.bool true) ∧ Below w.heap.size w w' := by
  have HA := Lib.hid hA
  have HB := Lib.hid hB
  have HP := Lib.hid hP
  have HT := Lib.hid hT
  clear hA hB hP hT
  by_cases hd : 0 ≤ b ∧ b ≤ 1048576
  · have hlt := hb hd
    obtain ⟨k0, k1⟩ := hd
    clear hb
    by_cases hc : a < b
    all_goals
      simp only [hc, decide_true, decide_false] at hlt
      go_enter Tryd.func4, Tryd.ntmps4
      go_wp2_with (first
        | (go_at_call 9; refine (awake_any _ ht).mono ?_; rintro e w' ⟨rfl, hb0⟩; have t0 := ht.below hb0)
        | (go_at_call 17; ((with_reducible refine (HA.out _ t0).mono ?_); rintro e w' ⟨rfl, hb1⟩; have t1 := t0.below hb1))
        | (go_at_call 17; ((with_reducible refine (HB.out _ t1).mono ?_); rintro e w' ⟨rfl, hb2⟩))
        | (go_at_call 18; refine (HP.out _).mono ?_; rintro e w' ⟨rfl, rfl⟩)
        | (go_at_call 19; refine (HT.out _).mono ?_; rintro e w' ⟨rfl, hb3⟩)
        | (go_at_call 15; ((with_reducible refine (is_yes a _ h0 h1).mono ?_); rintro e w' ⟨rfl, rfl⟩))
        | (go_at_call 15; ((with_reducible refine (is_yes b _ k0 k1).mono ?_); rintro e w' ⟨rfl, rfl⟩)))
      go_ret
      have hz := hb0.trans ((hb1.trans ((hb2.trans (hb3.mono hb2.size)).mono hb1.size)).mono hb0.size)
      first
        | exact ⟨rfl, hz⟩
        | exact ⟨ret_bool (show (!decide (a < b)) = true by simp; omega), hz⟩
  · have hn : b < 0 ∨ 1048576 < b := by omega
    clear hb hd
    go_enter Tryd.func4, Tryd.ntmps4
    go_wp2_with (first
        | (go_at_call 9; refine (awake_any _ ht).mono ?_; rintro e w' ⟨rfl, hb0⟩; have t0 := ht.below hb0)
        | (go_at_call 17; ((with_reducible refine (HA.out _ t0).mono ?_); rintro e w' ⟨rfl, hb1⟩; have t1 := t0.below hb1))
        | (go_at_call 17; ((with_reducible refine (HB.out _ t1).mono ?_); rintro e w' ⟨rfl, hb2⟩))
        | (go_at_call 18; refine (HP.out _).mono ?_; rintro e w' ⟨rfl, rfl⟩)
        | (go_at_call 19; refine (HT.out _).mono ?_; rintro e w' ⟨rfl, hb3⟩)
        | (go_at_call 15; ((with_reducible refine (is_yes a _ h0 h1).mono ?_); rintro e w' ⟨rfl, rfl⟩))
        | (go_at_call 15; ((with_reducible refine (is_no b _ hn).mono ?_); rintro e w' ⟨rfl, rfl⟩)))
    go_ret
    exact ⟨rfl, hb0.trans ((hb1.trans ((hb2.trans (hb3.mono hb2.size)).mono hb1.size)).mono hb0.size)⟩

/-- The law DateTexts. -/
theorem lawTexts (a b : Int) (w : World) (ht : Tab w) (_ : -9223372036854775808 ≤ a ∧ a ≤ 9223372036854775807) (_ : -9223372036854775808 ≤ b ∧ b ≤ 9223372036854775807) :
    Calls Tryd.prog 4 #[.int .i64 a, .int .i64 b] w fun e w' => e = .returned (.bool true) ∧ Below w.heap.size w w' := by
  obtain ⟨T, hB, hT⟩ : ∃ T, (∀ W, Tab W → Calls Tryd.prog 17 #[.int .i64 b] W fun e w' => e = .returned (.string T) ∧ Below W.heap.size W w') ∧ (0 ≤ b ∧ b ≤ 1048576 → ∃ Z : Int, 1900 ≤ Z ∧ fy Z ≤ b ∧ b < fy (Z + 1) ∧ T = txt Z (b - fy Z + 1)) := by
    by_cases hd : 0 ≤ b ∧ b ≤ 1048576
    · obtain ⟨Z, hZ, kl, kr⟩ := year_of b hd.1
      exact ⟨_, fun W hW => format_at b Z W hW hd.2 hZ kl kr, fun _ => ⟨Z, hZ, kl, kr, rfl⟩⟩
    · exact ⟨_, fun W _ => (format_no b W (by omega)).mono fun e w' ⟨he, hw⟩ => ⟨he, by rw [hw]; exact Below.refl _ _⟩, fun h => absurd h hd⟩
  by_cases ha : 0 ≤ a ∧ a ≤ 1048576
  · obtain ⟨Y, hY, hl, hr⟩ := year_of a ha.1
    exact lawTexts_in a b _ T w ht ha.1 ha.2 (fun hd => by
        obtain ⟨Z, hZ, kl, kr, rfl⟩ := hT hd
        exact less_days a b Y Z hY hl hr ha.2 hZ kl kr hd.2)
      (fun W hW => format_at a Y W hW ha.2 hY hl hr) hB (fun W => parse_txt a Y W ha.2 hY hl hr) (fun W => text_at a Y W ha.2 hY hl hr)
  · exact lawTexts_out a b w ht (by omega) (fun W hW => (hB W hW).mono fun e w' ⟨he, hb⟩ => ⟨⟨T, he⟩, hb⟩)
end Go.Proofs.YtagapapnpefckaaDoor
