/-
  The contract of the reference's Text.
-/
import Derived.Test.YtplphinaeikpmaaGreatDoorRefD
import Derived.Test.YtplphinaeikpmaaGreatDoorNum
import Derived.Test.YtplphinaeikpmaaGreatDoorPrs
namespace Go.Proofs.YtplphinaeikpmaaGreatDoor
open Go.RowKit (wrap32 wrap64 intOf Hid Below)
open Spans

/-- A decimal numeral as a string. -/
def dgB (n : Int) : ByteArray := ⟨(Lib.decDigits n.toNat).toArray⟩
theorem dgB_list (n : Int) (h : 0 ≤ n) : (dgB n).data.toList = Lib.itoa n := (itoa_dec n h).symm
theorem dgB_size (n : Int) (h0 : 0 ≤ n) (h1 : n ≤ 1048577) : (dgB n).size ≤ 9 := by
  have h := dec_len n.toNat (by omega)
  have e : (dgB n).size = (Lib.decDigits n.toNat).length := by simp [dgB, ByteArray.size]
  omega
theorem dg_any (n : Int) (w : World) (h0 : 0 ≤ n) (h1 : n ≤ 1048577) :
    Calls Tryz.prog 21 #[.int .i64 n] w fun e w' => e = .returned (.string (dgB n)) ∧ Below w.heap.size w w' := by
  have h := digits_any n.toNat w (by omega)
  rw [Int.toNat_of_nonneg h0] at h
  exact h
theorem join_snoc : ∀ (xs : List Bs) (x y : Bs), Lib.join (x :: xs ++ [y]) [44] = Lib.join (x :: xs) [44] ++ 44 :: y
  | [], x, y => by
    rw [List.singleton_append, Lib.join_cons, Lib.join_one]
    simp [Lib.joinTail]
  | z :: xs, x, y => by
    have ih := join_snoc xs z y
    have e : ∀ (r : List Bs) (u : Bs), Lib.join (x :: u :: r) [44] = x ++ 44 :: Lib.join (u :: r) [44] := fun r u => by
      rw [Lib.join_cons, Lib.join_cons]; simp [Lib.joinTail]
    rw [List.cons_append, List.cons_append] at *
    rw [e, e, ih]
    simp
theorem join_step (R : List Sp) (k : Nat) (hk : k < R.length) : joinL (R.take (k + 1)) = (if k = 0 then [] else joinL (R.take k) ++ [44]) ++ spanL (fr R k, tu R k) := by
  rw [take_step R k hk]
  by_cases h0 : k = 0
  · subst h0
    rw [if_pos rfl]
    simp [joinL, Lib.join_one]
  · rw [if_neg h0]
    unfold joinL
    rw [List.map_append, List.map_singleton]
    obtain ⟨x, r, e⟩ : ∃ x r, (R.take k).map spanL = x :: r := by
      cases h : (R.take k).map spanL with
      | nil =>
        have := congrArg List.length h
        rw [List.length_map, List.length_take, List.length_nil] at this
        omega
      | cons x r => exact ⟨x, r, rfl⟩
    rw [e, join_snoc]
    simp
theorem span_len (s : Sp) (h : Ok s) : (spanL s).length ≤ 20 := by
  obtain ⟨h0, h1, h2⟩ := h
  have a := dec_len s.1.toNat (by omega)
  have b := dec_len (s.2 - 1).toNat (by omega)
  unfold spanL
  rw [itoa_dec s.1 h0, itoa_dec (s.2 - 1) (by omega)]
  split
  · omega
  · split
    · simp only [List.length_append, List.length_cons, List.length_nil]; omega
    · simp only [List.length_append, List.length_cons]; omega
theorem join_len (R : List Sp) (h : SepL (-1) R) : ∀ k, k ≤ R.length → (joinL (R.take k)).length ≤ 21 * k
  | 0, _ => by simp [joinL, Lib.join_nil]
  | k + 1, hk => by
    have ih := join_len R h k (by omega)
    obtain ⟨s1, s2, s3⟩ := sep_ok R (-1) (by omega) h k (by omega)
    have hs := span_len (fr R k, tu R k) ⟨s1, s2, s3⟩
    rw [join_step R k (by omega)]
    split
    · simp; omega
    · simp; omega

set_option maxHeartbeats 4000000 in
set_option maxRecDepth 100000 in
theorem text_any (La : List Sp) (N ca : Nat) (Aa : Option Addr) (w : World) (hza : SpansAt w.heap.size w Aa N La) (hN : N ≤ 10000) (hna : Aa = none → ca = 0) :
    Calls Tryz.prog 8 #[.slice Aa N ca] w fun e w' => e = .returned (.string (txtB (canon (memB La)))) ∧ Below w.heap.size w w' := by
  have HOf := Lib.hid (of_c La N ca Aa _ hza (by omega) hna)
  clear hza
  obtain ⟨R, hR⟩ : ∃ R, R = canon (memB La) := ⟨_, rfl⟩
  rw [← hR]
  have HRd := Lib.hid hR
  clear hR
  go_enter Tryz.func8, Tryz.ntmps8
  go_wp2_with (go_at_call 10; ((with_reducible refine (HOf.out).mono ?_); rintro e w1 ⟨⟨A1, n1, c1, rfl, z1, i1, l1, x1⟩, hb1⟩))
  rw [← HRd.out] at z1 i1
  have HS := Lib.hid i1.1
  have HL := Lib.hid z1.1
  clear i1
  go_loopw [3, 5] (fun v i wr => ∃ (k : Nat) (b : ByteArray), k ≤ n1 ∧ i = .int .i64 k ∧ v = .string b ∧ b.data.toList = joinL (R.take k) ∧ Below w1.heap.size w1 wr) (fun _ i _ => n1 - (intOf i).toNat)
  case atStart => exact ⟨0, _, Nat.zero_le _, rfl, rfl, rfl, Below.refl _ _⟩
  case round =>
    obtain ⟨k, b, hk, rfl, rfl, hbt, hb⟩ := hrel
    have hbz := hb.size
    have hsz : b.size ≤ 500000 := by
      have h1 := join_len R HS.out k (by have := HL.out; omega)
      rw [← hbt] at h1
      have e : b.data.toList.length = b.size := by simp
      omega
    have HB := Lib.hid hbt
    clear hbt
    by_cases hlt : k < n1
    · obtain ⟨bs, offs, rfl, hBB, h1, h2⟩ := z1.cells hb hlt
      obtain ⟨s1, s2, s3⟩ := sep_ok R (-1) (by omega) HS.out k (by have := HL.out; omega)
      have HJ := Lib.hid (join_step R k (by have := HL.out; omega))
      have HC : Hid (∀ W, Below wr.heap.size wr W → W.cell? ⟨bs, offs + k * 2, none⟩ = some (.int .i64 (fr R k)) ∧ W.cell? ⟨bs, offs + k * 2 + 1, none⟩ = some (.int .i64 (tu R k))) := Lib.hid fun W h =>
        ⟨(h.cell (p := ⟨bs, offs + k * 2, none⟩) (Nat.lt_of_lt_of_le hBB hbz)).trans h1, (h.cell (p := ⟨bs, offs + k * 2 + 1, none⟩) (Nat.lt_of_lt_of_le hBB hbz)).trans h2⟩
      have HD1 := Lib.hid (dg_any (fr R k) wr s1 (by omega))
      have HD2 : Hid (∀ W, Calls Tryz.prog 21 #[.int .i64 (tu R k - 1)] W fun e w' => e = .returned (.string (dgB (tu R k - 1))) ∧ Below W.heap.size W w') := Lib.hid fun W => dg_any (tu R k - 1) W (by omega) (by omega)
      have g1 := dgB_size (fr R k) s1 (by omega)
      have g2 := dgB_size (tu R k - 1) (by omega) (by omega)
      clear z1
      by_cases c1 : tu R k - fr R k = 1
      · have HF : Hid (spanL (fr R k, tu R k) = Lib.itoa (fr R k)) := Lib.hid (by unfold spanL; rw [if_pos c1])
        have d3 : ¬ (1 < tu R k - fr R k) := by omega
        by_cases c2 : tu R k = 1048577
        · have d1 : (tu R k == 1048577) = true := by rw [beq_iff_eq]; exact c2
          have d2 : ¬ (fr R k < 1048576) := by omega
          rcases Nat.eq_zero_or_pos k with hk0 | hk0
          · subst hk0
            have e0 : ((0 : Nat) : Int) = 0 := rfl
            rw [e0]
            rw [Nat.zero_mul, Nat.add_zero] at HC h1 h2
            go_wp2_with (go_at_call 21; ((with_reducible refine (HD1.out).mono ?_); rintro e w2 ⟨rfl, hb2⟩; obtain ⟨k1, k2⟩ := HC.out _ hb2; have hb12 := hb.trans (hb2.mono hbz)))
            go_quiet (fail)
            go_wp2
            go_roundw
            case rel => exact ⟨1, _, by omega, rfl, rfl, by
              simp only [ByteArray.data_append, Array.toList_append]
              rw [HJ.out, HF.out, HB.out, dgB_list _ s1]
              simp [joinL, Lib.join_nil], below_drawn hb12 _⟩
            case measure => simp [intOf]; omega
          · have e0 : ¬ k = 0 := by omega
            go_wp2_with (go_at_call 21; ((with_reducible refine (HD1.out).mono ?_); rintro e w2 ⟨rfl, hb2⟩; obtain ⟨k1, k2⟩ := HC.out _ hb2; have hb12 := hb.trans (hb2.mono hbz)))
            go_quiet (fail)
            go_wp2
            go_roundw
            case rel => exact ⟨k + 1, _, by omega, by go_num, rfl, by
              simp only [ByteArray.data_append, Array.toList_append]
              rw [HJ.out, HF.out, HB.out, dgB_list _ s1]
              simp [e0], below_drawn hb12 _⟩
            case measure => simp [intOf]; omega
        · have d1 : (tu R k == 1048577) = false := by rw [beq_eq_false_iff_ne]; exact c2
          rcases Nat.eq_zero_or_pos k with hk0 | hk0
          · subst hk0
            have e0 : ((0 : Nat) : Int) = 0 := rfl
            rw [e0]
            rw [Nat.zero_mul, Nat.add_zero] at HC h1 h2
            go_wp2_with (go_at_call 21; ((with_reducible refine (HD1.out).mono ?_); rintro e w2 ⟨rfl, hb2⟩; obtain ⟨k1, k2⟩ := HC.out _ hb2; have hb12 := hb.trans (hb2.mono hbz)))
            go_quiet (fail)
            go_wp2
            go_roundw
            case rel => exact ⟨1, _, by omega, rfl, rfl, by
              simp only [ByteArray.data_append, Array.toList_append]
              rw [HJ.out, HF.out, HB.out, dgB_list _ s1]
              simp [joinL, Lib.join_nil], below_drawn hb12 _⟩
            case measure => simp [intOf]; omega
          · have e0 : ¬ k = 0 := by omega
            go_wp2_with (go_at_call 21; ((with_reducible refine (HD1.out).mono ?_); rintro e w2 ⟨rfl, hb2⟩; obtain ⟨k1, k2⟩ := HC.out _ hb2; have hb12 := hb.trans (hb2.mono hbz)))
            go_quiet (fail)
            go_wp2
            go_roundw
            case rel => exact ⟨k + 1, _, by omega, by go_num, rfl, by
              simp only [ByteArray.data_append, Array.toList_append]
              rw [HJ.out, HF.out, HB.out, dgB_list _ s1]
              simp [e0], below_drawn hb12 _⟩
            case measure => simp [intOf]; omega
      · by_cases c2 : tu R k = 1048577
        · have HF : Hid (spanL (fr R k, tu R k) = Lib.itoa (fr R k) ++ [43]) := Lib.hid (by unfold spanL; rw [if_neg c1, if_pos c2])
          have d1 : (tu R k == 1048577) = true := by rw [beq_iff_eq]; exact c2
          have d2 : fr R k < 1048576 := by omega
          rcases Nat.eq_zero_or_pos k with hk0 | hk0
          · subst hk0
            have e0 : ((0 : Nat) : Int) = 0 := rfl
            rw [e0]
            rw [Nat.zero_mul, Nat.add_zero] at HC h1 h2
            go_wp2_with (go_at_call 21; ((with_reducible refine (HD1.out).mono ?_); rintro e w2 ⟨rfl, hb2⟩; obtain ⟨k1, k2⟩ := HC.out _ hb2; have hb12 := hb.trans (hb2.mono hbz)))
            go_roundw
            case rel => exact ⟨1, _, by omega, rfl, rfl, by
              simp only [ByteArray.data_append, Array.toList_append]
              rw [HJ.out, HF.out, HB.out, dgB_list _ s1]
              simp [joinL, Lib.join_nil], hb12⟩
            case measure => simp [intOf]; omega
          · have e0 : ¬ k = 0 := by omega
            go_wp2_with (go_at_call 21; ((with_reducible refine (HD1.out).mono ?_); rintro e w2 ⟨rfl, hb2⟩; obtain ⟨k1, k2⟩ := HC.out _ hb2; have hb12 := hb.trans (hb2.mono hbz)))
            go_roundw
            case rel => exact ⟨k + 1, _, by omega, by go_num, rfl, by
              simp only [ByteArray.data_append, Array.toList_append]
              rw [HJ.out, HF.out, HB.out, dgB_list _ s1]
              simp [e0], hb12⟩
            case measure => simp [intOf]; omega
        · have HF : Hid (spanL (fr R k, tu R k) = Lib.itoa (fr R k) ++ 45 :: Lib.itoa (tu R k - 1)) := Lib.hid (by unfold spanL; rw [if_neg c1, if_neg c2])
          have d1 : (tu R k == 1048577) = false := by rw [beq_eq_false_iff_ne]; exact c2
          have d2 : 1 < tu R k - fr R k := by omega
          rcases Nat.eq_zero_or_pos k with hk0 | hk0
          · subst hk0
            have e0 : ((0 : Nat) : Int) = 0 := rfl
            rw [e0]
            rw [Nat.zero_mul, Nat.add_zero] at HC h1 h2
            go_wp2_with (go_at_call 21; ((with_reducible refine (HD1.out).mono ?_); rintro e w2 ⟨rfl, hb2⟩; obtain ⟨k1, k2⟩ := HC.out _ hb2; have hb12 := hb.trans (hb2.mono hbz)))
            go_quiet (fail)
            go_wp2_with (go_at_call 21; ((with_reducible refine (HD2.out _).mono ?_); rintro e w3 ⟨rfl, hb3⟩))
            go_roundw
            case rel => exact ⟨1, _, by omega, rfl, rfl, by
              simp only [ByteArray.data_append, Array.toList_append]
              rw [HJ.out, HF.out, HB.out, dgB_list _ s1, dgB_list _ (by omega)]
              simp [joinL, Lib.join_nil], (below_drawn hb12 _).trans (hb3.mono (Below.size (below_drawn hb12 _)))⟩
            case measure => simp [intOf]; omega
          · have e0 : ¬ k = 0 := by omega
            go_wp2_with (go_at_call 21; ((with_reducible refine (HD1.out).mono ?_); rintro e w2 ⟨rfl, hb2⟩; obtain ⟨k1, k2⟩ := HC.out _ hb2; have hb12 := hb.trans (hb2.mono hbz)))
            go_quiet (fail)
            go_wp2_with (go_at_call 21; ((with_reducible refine (HD2.out _).mono ?_); rintro e w3 ⟨rfl, hb3⟩))
            go_roundw
            case rel => exact ⟨k + 1, _, by omega, by go_num, rfl, by
              simp only [ByteArray.data_append, Array.toList_append]
              rw [HJ.out, HF.out, HB.out, dgB_list _ s1, dgB_list _ (by omega)]
              simp [e0], (below_drawn hb12 _).trans (hb3.mono (Below.size (below_drawn hb12 _)))⟩
            case measure => simp [intOf]; omega
    · obtain rfl : k = n1 := by omega
      have e : R.take k = R := List.take_of_length_le (by have := HL.out; omega)
      rw [e] at HB
      clear z1
      by_cases h0 : k = 0
      · have HR : Hid (txtB R = ⟨#[110, 101, 118, 101, 114]⟩) := Lib.hid (by
          have : R = [] := List.eq_nil_of_length_eq_zero (by have := HL.out; omega)
          rw [this]; rfl)
        subst h0
        go_wp2
        go_ret
        exact ⟨rets HR.out.symm, hb1.trans (hb.mono hb1.size)⟩
      · have HR : Hid (b = txtB R) := Lib.hid (by
          have hne : R ≠ [] := fun h => by have := HL.out; rw [h] at this; simp at this; omega
          refine ByteArray.ext (Array.toList_inj.1 ?_)
          rw [HB.out, txtB_list]
          unfold txtL
          rw [if_neg hne])
        have hnk : ((k : Int) == 0) = false := by rw [beq_eq_false_iff_ne]; omega
        go_wp2
        go_ret
        exact ⟨rets HR.out, hb1.trans (hb.mono hb1.size)⟩
end Go.Proofs.YtplphinaeikpmaaGreatDoor
