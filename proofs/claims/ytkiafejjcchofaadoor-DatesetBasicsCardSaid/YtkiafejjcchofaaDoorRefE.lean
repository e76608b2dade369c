/-
  The contracts of the reference's May, Size, Ends and Ints.
-/
import Derived.Test.YtkiafejjcchofaaDoorRefD
namespace Go.Proofs.YtkiafejjcchofaaDoor
open Go.RowKit (wrap32 wrap64 intOf Hid Below)
open Spans

/-- The k-th span stands where it must. -/
def goodK (L : List Sp) (k : Nat) : Prop := 0 ≤ fr L k ∧ fr L k < to L k ∧ to L k ≤ 1048577 ∧ (0 < k → to L (k - 1) < fr L k)
theorem good_sep (L : List Sp) (h : ∀ k, k < L.length → goodK L k) : sepB (-1) L = true := sepB_take L (-1) fun k hk => by
  obtain ⟨h1, h2, h3, h4⟩ := h k hk
  refine ⟨h2, h3, ?_⟩
  by_cases hk0 : k = 0
  · rw [if_pos hk0]; omega
  · rw [if_neg hk0]; exact h4 (by omega)
theorem sep_good (L : List Sp) (h : sepB (-1) L = true) (k : Nat) (hk : k < L.length) : goodK L k := by
  obtain ⟨h1, h2, h3⟩ := sep_ok L (-1) (by omega) ((sepB_iff L (-1)).1 h) k hk
  obtain ⟨_, _, g3⟩ := sepB_all L (-1) h k hk
  refine ⟨h1, h2, h3, fun h0 => ?_⟩
  rw [if_neg (by omega)] at g3
  exact g3
theorem valid_no (L : List Sp) (k : Nat) (hk : k < L.length) (h : ¬ goodK L k) : validB L = false := by
  unfold validB
  have : sepB (-1) L = false := by
    rw [Bool.eq_false_iff]
    exact fun hs => h (sep_good L hs k hk)
  rw [this, Bool.and_false]

set_option maxHeartbeats 4000000 in
theorem may_any (La : List Sp) (N ca : Nat) (Aa : Option Addr) (w : World) (hza : SpansAt w.heap.size w Aa N La) (hN : N ≤ 2000000) :
    Calls Tryd.prog 12 #[.slice Aa N ca] w fun e w' => e = .returned (.bool (validB La)) ∧ Below w.heap.size w w' := by
  have HL := Lib.hid hza.1
  go_enter Tryd.func12, Tryd.ntmps12
  go_wp2
  go_loopw [3] (fun i wr => ∃ k : Nat, k ≤ N ∧ i = .int .i64 k ∧ Below w.heap.size w wr ∧ ∀ j, j < k → goodK La j) (fun i _ => N - (intOf i).toNat)
  case atStart => exact ⟨0, Nat.zero_le _, rfl, Below.refl _ _, fun j hj => absurd hj (by omega)⟩
  case round =>
    obtain ⟨k, hk, rfl, hb, hg⟩ := hrel
    have HG := Lib.hid hg
    have HD : Hid (∀ q, Below w.heap.size w (wr.drewN q)) := Lib.hid fun q => below_drawn hb q
    clear hg
    by_cases hlt : k < N
    · obtain ⟨b, off, rfl, hBB, h1, h2⟩ := hza.cells hb hlt
      have HNo := Lib.hid (valid_no La k (by have := HL.out; omega))
      rcases Nat.eq_zero_or_pos k with hk0 | hk0
      · subst hk0
        have e0 : ((0 : Nat) : Int) = 0 := rfl
        rw [e0]
        rw [Nat.zero_mul, Nat.add_zero] at h1 h2
        clear hza hb
        by_cases c1 : fr La 0 < 0
        · have d1 := decide_eq_true c1
          have HN := Lib.hid (HNo.out fun h => by have := h.1; omega)
          go_wp2
          go_quiet (fail)
          go_wp2
          go_ret
          exact ⟨ret_bool HN.out.symm, HD.out _⟩
        · have d1 := decide_eq_false c1
          by_cases c2 : to La 0 ≤ fr La 0
          · have d2 := decide_eq_true c2
            have HN := Lib.hid (HNo.out fun h => by have := h.2.1; omega)
            go_wp2
            go_quiet (fail)
            go_wp2
            go_ret
            exact ⟨ret_bool HN.out.symm, HD.out _⟩
          · have d2 := decide_eq_false c2
            by_cases c3 : 1048577 < to La 0
            · have d3 := decide_eq_true c3
              have HN := Lib.hid (HNo.out fun h => by have := h.2.2.1; omega)
              go_wp2
              go_quiet (fail)
              go_wp2
              go_ret
              exact ⟨ret_bool HN.out.symm, HD.out _⟩
            · have d3 := decide_eq_false c3
              have HY : Hid (goodK La 0) := Lib.hid ⟨by omega, by omega, by omega, fun h => absurd h (by omega)⟩
              go_wp2
              go_quiet (fail)
              go_wp2
              go_roundw
              case rel => exact ⟨1, by omega, rfl, HD.out _, fun j hj => (show j = 0 by omega) ▸ HY.out⟩
              case measure => simp [intOf]; omega
      · obtain ⟨i, rfl⟩ : ∃ i, k = i + 1 := ⟨k - 1, by omega⟩
        obtain ⟨b', off', e', _, h3, h4⟩ := hza.cells hb (show i < N by omega)
        injection e' with e'
        injection e' with e1 e2
        subst e1 e2
        clear hza hb
        by_cases c1 : fr La (i + 1) < 0
        · have d1 := decide_eq_true c1
          have HN := Lib.hid (HNo.out fun h => by have := h.1; omega)
          go_wp2
          go_quiet (fail)
          go_wp2
          go_ret
          exact ⟨ret_bool HN.out.symm, HD.out _⟩
        · have d1 := decide_eq_false c1
          by_cases c2 : to La (i + 1) ≤ fr La (i + 1)
          · have d2 := decide_eq_true c2
            have HN := Lib.hid (HNo.out fun h => by have := h.2.1; omega)
            go_wp2
            go_quiet (fail)
            go_wp2
            go_ret
            exact ⟨ret_bool HN.out.symm, HD.out _⟩
          · have d2 := decide_eq_false c2
            by_cases c3 : 1048577 < to La (i + 1)
            · have d3 := decide_eq_true c3
              have HN := Lib.hid (HNo.out fun h => by have := h.2.2.1; omega)
              go_wp2
              go_quiet (fail)
              go_wp2
              go_ret
              exact ⟨ret_bool HN.out.symm, HD.out _⟩
            · have d3 := decide_eq_false c3
              by_cases c4 : fr La (i + 1) ≤ to La i
              · have d4 := decide_eq_true c4
                have HN := Lib.hid (HNo.out fun h => by have := h.2.2.2 (by omega); rw [Nat.add_sub_cancel] at this; omega)
                go_wp2
                go_quiet (fail)
                go_wp2
                go_ret
                exact ⟨ret_bool HN.out.symm, HD.out _⟩
              · have d4 := decide_eq_false c4
                have HY : Hid (goodK La (i + 1)) := Lib.hid ⟨by omega, by omega, by omega, fun _ => by rw [Nat.add_sub_cancel]; omega⟩
                go_wp2
                go_quiet (fail)
                go_wp2
                go_roundw
                case rel => exact ⟨i + 2, by omega, by go_num, HD.out _, fun j hj => by
                  by_cases h : j = i + 1
                  · subst h; exact HY.out
                  · exact HG.out j (by omega)⟩
                case measure => simp [intOf]; omega
    · obtain rfl : k = N := by omega
      have HV : Hid (validB La = decide (La.length ≤ 4096)) := Lib.hid (by unfold validB; rw [good_sep La fun j hj => HG.out j (by have := HL.out; omega), Bool.and_true])
      clear hza
      go_wp2
      go_ret
      exact ⟨ret_bool (by rw [HV.out, HL.out, Bool.eq_iff_iff]; simp; try omega), hb⟩

set_option maxHeartbeats 4000000 in
theorem rsize_any (La : List Sp) (N ca : Nat) (Aa : Option Addr) (w : World) (hza : SpansAt w.heap.size w Aa N La) (hN : N ≤ 5000) (hna : Aa = none → ca = 0) :
    Calls Tryd.prog 19 #[.slice Aa N ca] w fun e w' => e = .returned (.int .i64 (sizeS (canon (memB La)))) ∧ Below w.heap.size w w' := by
  have HOf := Lib.hid (of_c La N ca Aa _ hza (by omega) hna)
  clear hza
  obtain ⟨R, hR⟩ : ∃ R, R = canon (memB La) := ⟨_, rfl⟩
  rw [← hR]
  have HRd := Lib.hid hR
  clear hR
  go_enter Tryd.func19, Tryd.ntmps19
  go_wp2_with (go_at_call 15; ((with_reducible refine (HOf.out).mono ?_); rintro e w1 ⟨⟨A1, n1, c1, rfl, z1, i1, l1, x1⟩, hb1⟩))
  rw [← HRd.out] at z1 i1
  have HR := Lib.hid (fun k => sizeS_range R i1.1 k)
  have HS := Lib.hid i1.1
  have HL := Lib.hid z1.1
  go_loopw [3, 5] (fun v i wr => ∃ k : Nat, k ≤ n1 ∧ i = .int .i64 k ∧ v = .int .i64 (sizeS (R.take k)) ∧ Below w1.heap.size w1 wr) (fun _ i _ => n1 - (intOf i).toNat)
  case atStart => exact ⟨0, Nat.zero_le _, rfl, rfl, Below.refl _ _⟩
  case round =>
    obtain ⟨k, hk, rfl, rfl, hb⟩ := hrel
    have HD : Hid (∀ q, Below w1.heap.size w1 (wr.drewN q)) := Lib.hid fun q => below_drawn hb q
    by_cases hlt : k < n1
    · obtain ⟨b, off, rfl, hB, c1', c2'⟩ := z1.cells hb hlt
      have hT := sizeS_take R k (by have := HL.out; omega)
      obtain ⟨r1, r2⟩ := HR.out k
      obtain ⟨r3, r4⟩ := HR.out (k + 1)
      obtain ⟨s1, s2, s3⟩ := sep_ok R (-1) (by omega) HS.out k (by have := HL.out; omega)
      rw [hT] at r3 r4
      have HT := Lib.hid hT
      clear hT z1 i1 hb
      go_wp2
      go_quiet (fail)
      go_wp2
      go_roundw
      case rel => exact ⟨k + 1, by omega, by go_num, by rw [HT.out, Int.add_sub_assoc], HD.out _⟩
      case measure => simp [intOf]; omega
    · obtain rfl : k = n1 := by omega
      have e : R.take k = R := List.take_of_length_le (by have := HL.out; omega)
      rw [e]
      clear z1 i1
      go_wp2
      go_ret
      exact ⟨rfl, hb1.trans (hb.mono hb1.size)⟩
theorem list_ext_el {a b : List Int} (hl : a.length = b.length) (h : ∀ k, k < a.length → el a k = el b k) : a = b := by
  refine List.ext_getElem hl fun k h1 h2 => ?_
  have := h k h1
  unfold el at this
  rw [List.getD, List.getD, List.getElem?_eq_getElem h1, List.getElem?_eq_getElem h2] at this
  exact this
set_option maxHeartbeats 4000000 in
theorem ints_any (La Lb : List Int) (B N M ca cb : Nat) (Aa Ab : Option Addr) (w : World) (hza : IntsAt B w Aa N La) (hzb : IntsAt B w Ab M Lb) (hN : N ≤ 5000000) (hM : M ≤ 5000000) (hab : La = Lb) :
    Calls Tryd.prog 20 #[.slice Aa N ca, .slice Ab M cb] w fun e w' => e = .returned (.bool true) ∧ ∃ q, w' = w.drewN q := by
  subst hab
  obtain rfl : N = M := by have := hza.1; have := hzb.1; omega
  go_enter Tryd.func20, Tryd.ntmps20
  go_wp2
  go_loopw [5] (fun i wr => ∃ k : Nat, k ≤ N ∧ i = .int .i64 k ∧ (∃ q, wr = w.drewN q)) (fun i _ => N - (intOf i).toNat)
  case atStart => exact ⟨0, Nat.zero_le _, rfl, ⟨0, rfl⟩⟩
  case round =>
    obtain ⟨k, hk, rfl, hq⟩ := hrel
    have HQ := Lib.hid hq
    by_cases hlt : k < N
    · have hbq : Below B w wr := by obtain ⟨q, rfl⟩ := hq; exact below_drawn (Below.refl _ _) q
      obtain ⟨b, off, rfl, hB, h1⟩ := hza.cells hbq hlt
      obtain ⟨b', off', rfl, hB', h1'⟩ := hzb.cells hbq hlt
      have c1 := h1 k hlt
      have c2 := h1' k hlt
      clear hza hzb hq h1 h1' hbq
      go_wp2
      go_quiet (fail)
      go_wp2
      go_roundw
      case rel => exact ⟨k + 1, by omega, by go_num, drew_more HQ.out _⟩
      case measure => simp [intOf]; omega
    · obtain rfl : k = N := by omega
      clear hza hzb hq
      go_wp2
      go_ret
      exact ⟨rfl, HQ.out⟩
end Go.Proofs.YtkiafejjcchofaaDoor
