/-
  The contracts of the reference's May, Size, Ends and Ints.
-/
import Derived.Test.YtplphinaeikpmaaGreatDoorRefD
namespace Go.Proofs.YtplphinaeikpmaaGreatDoor
open Go.RowKit (wrap32 wrap64 intOf Hid Below)
open Spans

/-- The k-th span stands where it must. -/
def goodK (L : List Sp) (k : Nat) : Prop := 0 ≤ fr L k ∧ fr L k < tu L k ∧ tu L k ≤ 1048577 ∧ (0 < k → tu L (k - 1) < fr L k)
theorem good_sep (L : List Sp) (h : ∀ k, k < L.length → goodK L k) : sepB (-1) L = true := sepB_take L (-1) fun k hk => by
  obtain ⟨h1, h2, h3, h4⟩ := h k hk
  refine ⟨h2, h3, ?_⟩
  by_cases hk0 : k = 0
  · rw [if_pos hk0]; omega
  · rw [if_neg hk0]; exact h4 (by omega)
theorem sep_good (L : List Sp) (h : sepB (-1) L = true) (k : Nat) (hk : k < L.length) : goodK L k := by
  obtain ⟨h1, h2, h3⟩ := sep_ok L (-1) (by omega) ((sepB_iff L (-1)).1 h) k hk
  obtain ⟨_, _, g3⟩ := sepB_all L (-1) h k hk
  refine ⟨h1, h2, h3, fun h0 => ?_⟩
  rw [if_neg (by omega)] at g3
  exact g3
theorem valid_no (L : List Sp) (k : Nat) (hk : k < L.length) (h : ¬ goodK L k) : validB L = false := by
  unfold validB
  have : sepB (-1) L = false := by
    rw [Bool.eq_false_iff]
    exact fun hs => h (sep_good L hs k hk)
  rw [this, Bool.and_false]

set_option maxHeartbeats 4000000 in
theorem may_any (La : List Sp) (N ca : Nat) (Aa : Option Addr) (w : World) (hza : SpansAt w.heap.size w Aa N La) (hN : N ≤ 2000000) :
    Calls Tryz.prog 24 #[.slice Aa N ca] w fun e w' => e = .returned (.bool (validB La)) ∧ Below w.heap.size w w' := by
  have HL := Lib.hid hza.1
  go_enter Tryz.func24, Tryz.ntmps24
  go_wp2
  go_loopw [3] (fun i wr => ∃ k : Nat, k ≤ N ∧ i = .int .i64 k ∧ Below w.heap.size w wr ∧ ∀ j, j < k → goodK La j) (fun i _ => N - (intOf i).toNat)
  case atStart => exact ⟨0, Nat.zero_le _, rfl, Below.refl _ _, fun j hj => absurd hj (by omega)⟩
  case round =>
    obtain ⟨k, hk, rfl, hb, hg⟩ := hrel
    have HG := Lib.hid hg
    have HD : Hid (∀ q, Below w.heap.size w (wr.drewN q)) := Lib.hid fun q => below_drawn hb q
    clear hg
    by_cases hlt : k < N
    · obtain ⟨b, off, rfl, hBB, h1, h2⟩ := hza.cells hb hlt
      have HNo := Lib.hid (valid_no La k (by have := HL.out; omega))
      rcases Nat.eq_zero_or_pos k with hk0 | hk0
      · subst hk0
        have e0 : ((0 : Nat) : Int) = 0 := rfl
        rw [e0]
        rw [Nat.zero_mul, Nat.add_zero] at h1 h2
        clear hza hb
        by_cases c1 : fr La 0 < 0
        · have d1 := decide_eq_true c1
          have HN := Lib.hid (HNo.out fun h => by have := h.1; omega)
          go_wp2
          go_quiet (fail)
          go_wp2
          go_ret
          exact ⟨ret_bool HN.out.symm, HD.out _⟩
        · have d1 := decide_eq_false c1
          by_cases c2 : tu La 0 ≤ fr La 0
          · have d2 := decide_eq_true c2
            have HN := Lib.hid (HNo.out fun h => by have := h.2.1; omega)
            go_wp2
            go_quiet (fail)
            go_wp2
            go_ret
            exact ⟨ret_bool HN.out.symm, HD.out _⟩
          · have d2 := decide_eq_false c2
            by_cases c3 : 1048577 < tu La 0
            · have d3 := decide_eq_true c3
              have HN := Lib.hid (HNo.out fun h => by have := h.2.2.1; omega)
              go_wp2
              go_quiet (fail)
              go_wp2
              go_ret
              exact ⟨ret_bool HN.out.symm, HD.out _⟩
            · have d3 := decide_eq_false c3
              have HY : Hid (goodK La 0) := Lib.hid ⟨by omega, by omega, by omega, fun h => absurd h (by omega)⟩
              go_wp2
              go_quiet (fail)
              go_wp2
              go_roundw
              case rel => exact ⟨1, by omega, rfl, HD.out _, fun j hj => (show j = 0 by omega) ▸ HY.out⟩
              case measure => simp [intOf]; omega
      · obtain ⟨i, rfl⟩ : ∃ i, k = i + 1 := ⟨k - 1, by omega⟩
        obtain ⟨b', off', e', _, h3, h4⟩ := hza.cells hb (show i < N by omega)
        injection e' with e'
        injection e' with e1 e2
        subst e1 e2
        clear hza hb
        by_cases c1 : fr La (i + 1) < 0
        · have d1 := decide_eq_true c1
          have HN := Lib.hid (HNo.out fun h => by have := h.1; omega)
          go_wp2
          go_quiet (fail)
          go_wp2
          go_ret
          exact ⟨ret_bool HN.out.symm, HD.out _⟩
        · have d1 := decide_eq_false c1
          by_cases c2 : tu La (i + 1) ≤ fr La (i + 1)
          · have d2 := decide_eq_true c2
            have HN := Lib.hid (HNo.out fun h => by have := h.2.1; omega)
            go_wp2
            go_quiet (fail)
            go_wp2
            go_ret
            exact ⟨ret_bool HN.out.symm, HD.out _⟩
          · have d2 := decide_eq_false c2
            by_cases c3 : 1048577 < tu La (i + 1)
            · have d3 := decide_eq_true c3
              have HN := Lib.hid (HNo.out fun h => by have := h.2.2.1; omega)
              go_wp2
              go_quiet (fail)
              go_wp2
              go_ret
              exact ⟨ret_bool HN.out.symm, HD.out _⟩
            · have d3 := decide_eq_false c3
              by_cases c4 : fr La (i + 1) ≤ tu La i
              · have d4 := decide_eq_true c4
                have HN := Lib.hid (HNo.out fun h => by have := h.2.2.2 (by omega); rw [Nat.add_sub_cancel] at this; omega)
                go_wp2
                go_quiet (fail)
                go_wp2
                go_ret
                exact ⟨ret_bool HN.out.symm, HD.out _⟩
              · have d4 := decide_eq_false c4
                have HY : Hid (goodK La (i + 1)) := Lib.hid ⟨by omega, by omega, by omega, fun _ => by rw [Nat.add_sub_cancel]; omega⟩
                go_wp2
                go_quiet (fail)
                go_wp2
                go_roundw
                case rel => exact ⟨i + 2, by omega, by go_num, HD.out _, fun j hj => by
                  by_cases h : j = i + 1
                  · subst h; exact HY.out
                  · exact HG.out j (by omega)⟩
                case measure => simp [intOf]; omega
    · obtain rfl : k = N := by omega
      have HV : Hid (validB La = decide (La.length ≤ 4096)) := Lib.hid (by unfold validB; rw [good_sep La fun j hj => HG.out j (by have := HL.out; omega), Bool.and_true])
      clear hza
      go_wp2
      go_ret
      exact ⟨ret_bool (by rw [HV.out, HL.out, Bool.eq_iff_iff]; simp; try omega), hb⟩

end Go.Proofs.YtplphinaeikpmaaGreatDoor
