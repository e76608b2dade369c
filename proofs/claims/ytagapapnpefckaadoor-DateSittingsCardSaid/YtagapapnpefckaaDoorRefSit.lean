/-
  Contracts of the reference's Rises and Sitting.
-/
import Derived.Test.YtagapapnpefckaaDoorSitting
namespace Go.Proofs.YtagapapnpefckaaDoor
open Go.RowKit (wrap32 wrap64 intOf Hid Below)
open Cal

theorem drew_more {w wr : World} (h : ∃ q, wr = w.drewN q) (m : Nat) : ∃ q, wr.drewN m = w.drewN q := by
  obtain ⟨q, rfl⟩ := h
  exact ⟨q + m, World.drewN_drewN _ _ _⟩

set_option maxHeartbeats 800000 in
theorem rises_any (zs : List Int) (n c : Nat) (A : Option Addr) (w : World) (hz : IntsAt w.heap.size w A n zs) (hn : n ≤ maxLen) :
    Calls Tryd.prog 26 #[.slice A n c] w fun e w' => e = .returned (.bool (sitB zs)) ∧ ∃ q, w' = w.drewN q := by
  have HL := Lib.hid hz.1
  unfold maxLen at hn
  go_enter Tryd.func26, Tryd.ntmps26
  go_wp2
  go_loopw [3] (fun i wr => ∃ k : Nat, k ≤ n ∧ i = .int .i64 k ∧ (∃ q, wr = w.drewN q) ∧ ∀ j, j < k → goodAt zs j) (fun i _ => n - (intOf i).toNat)
  case atStart => exact ⟨0, Nat.zero_le _, rfl, ⟨0, rfl⟩, fun j hj => absurd hj (by omega)⟩
  case round =>
    obtain ⟨k, hk, rfl, hq, hg⟩ := hrel
    have HGA := Lib.hid hg
    have HQ := Lib.hid hq
    by_cases hlt : k < n
    · obtain ⟨b, off, rfl, hB, hc⟩ := hz.2 (by omega)
      have hcell : wr.cell? ⟨b, off + k, none⟩ = some (.int .i64 (el zs k)) := by obtain ⟨q, rfl⟩ := hq; exact hc k hlt
      have hcell2 : wr.cell? ⟨b, off + (k - 1), none⟩ = some (.int .i64 (el zs (k - 1))) := by obtain ⟨q, rfl⟩ := hq; exact hc (k - 1) (by omega)
      have bad : ¬ goodAt zs k → sitB zs = false := fun h => by
        have : goodB zs = false := by
          unfold goodB
          rw [decide_eq_false_iff_not]
          exact fun hh => h (hh k (by have := HL.out; omega))
        simp [sitB, this]
      have next : goodAt zs k → ∀ j, j < k + 1 → goodAt zs j := fun h j hj => by
        by_cases hjk : j = k
        · subst hjk; exact h
        · exact hg j (by omega)
      have HBad := Lib.hid bad
      have HNext := Lib.hid next
      clear bad next hc hz hq hg
      by_cases hd : 0 ≤ el zs k ∧ el zs k ≤ 1048576
      · obtain ⟨d0, d1⟩ := hd
        by_cases hk0 : k = 0
        · subst hk0
          have hcell0 : wr.cell? ⟨b, off, none⟩ = some (.int .i64 (el zs 0)) := hcell
          clear hcell hcell2
          go_wp2_with fail
          go_quiet ((go_at_call 15; exact Calls.quiet_of_same (is_yes _ _ d0 d1)))
          go_wp2
          go_roundw
          case rel => exact ⟨1, by omega, rfl, drew_more HQ.out _, HNext.out ⟨⟨d0, d1⟩, fun h => absurd h (by omega)⟩⟩
          case measure => simp [intOf]; omega
        · have hkp : 0 < k := by omega
          by_cases hlt2 : el zs (k - 1) < el zs k
          · go_wp2_with fail
            go_quiet ((go_at_call 15; exact Calls.quiet_of_same (is_yes _ _ d0 d1)))
            go_wp2
            go_roundw
            case rel => exact ⟨k + 1, by omega, by go_num, drew_more HQ.out _, HNext.out ⟨⟨d0, d1⟩, fun _ => hlt2⟩⟩
            case measure => simp [intOf]; omega
          · go_wp2_with fail
            go_quiet ((go_at_call 15; exact Calls.quiet_of_same (is_yes _ _ d0 d1)))
            go_wp2
            go_ret
            exact ⟨ret_bool (HBad.out fun h => by have := h.2 hkp; omega).symm, drew_more HQ.out _⟩
      · have hnd : el zs k < 0 ∨ 1048576 < el zs k := by omega
        go_wp2_with fail
        go_quiet ((go_at_call 15; exact Calls.quiet_of_same (is_no _ _ hnd)))
        go_wp2
        go_ret
        exact ⟨ret_bool (HBad.out fun h => absurd h.1 (by omega)).symm, drew_more HQ.out _⟩
    · obtain rfl : k = n := by omega
      go_wp2
      go_ret
      exact ⟨ret_bool (by
        have hgd : goodB zs = true := by
          unfold goodB
          rw [decide_eq_true_iff]
          exact fun j hj => HGA.out j (by have := HL.out; omega)
        have := HL.out
        simp [sitB, hgd]
        omega), HQ.out⟩

set_option maxHeartbeats 800000 in
theorem refSitting_any (zs : List Int) (d : Int) (K n c : Nat) (A : Option Addr) (w : World) (hz : IntsAt w.heap.size w A n zs) (hn : n ≤ maxLen) (hK : CountIs zs d K) :
    Calls Tryd.prog 25 #[.slice A n c, .int .i64 d] w fun e w' => e = .returned (sitV zs d K) ∧ ∃ q, w' = w.drewN q := by
  have HV : Hid (Calls Tryd.prog 26 #[.slice A n c] w fun e w' => e = .returned (.bool (sitB zs)) ∧ ∃ q, w' = w.drewN q) := Lib.hid (rises_any zs n c A w hz hn)
  unfold maxLen at hn
  have HL := Lib.hid hz.1
  by_cases hd : 0 ≤ d ∧ d ≤ 1048576
  · obtain ⟨d0, d1⟩ := hd
    have hday : dayB d = true := by simp [dayB, d0, d1]
    cases hs : sitB zs
    · have e : sitV zs d K = .tuple #[.int .i64 0, .int .i64 0] := by simp [sitV, hs]
      rw [hs] at HV
      rw [e]
      clear e hz hs hday
      go_enter Tryd.func25, Tryd.ntmps25
      go_wp2_with (first
        | (go_at_call 15; refine (is_yes _ _ d0 d1).mono ?_; rintro e w' ⟨rfl, rfl⟩)
        | (go_at_call 26; refine (HV.out).mono ?_; rintro e w1 ⟨rfl, hq⟩))
      go_ret2
      exact ⟨rfl, hq⟩
    · have hg : goodB zs = true := by simp [sitB] at hs; exact hs.2
      have h64 : zs.length ≤ 64 := by simp [sitB] at hs; exact hs.1
      have HG : Hid (∀ k, k < zs.length → goodAt zs k) := Lib.hid (good_all hg)
      have e : sitV zs d K = sitV2 zs d K := by simp [sitV, sitV2, hs, hday]
      rw [hs] at HV
      rw [e]
      have HK := Lib.hid hK
      clear e hs hday hg hK
      have hn64 : n ≤ 64 := by have := HL.out; omega
      clear h64
      go_enter Tryd.func25, Tryd.ntmps25
      go_wp2_with (first
        | (go_at_call 15; refine (is_yes _ _ d0 d1).mono ?_; rintro e w' ⟨rfl, rfl⟩)
        | (go_at_call 26; refine (HV.out).mono ?_; rintro e w1 ⟨rfl, hq⟩))
      obtain ⟨B, hz1⟩ : ∃ B, IntsAt B w1 A n zs := by obtain ⟨q, rfl⟩ := hq; exact ⟨_, hz⟩
      have HQ := Lib.hid hq
      clear hq hz
      go_loop [6] (fun i => ∃ k : Nat, k ≤ n ∧ i = .int .i64 k ∧ ∀ j, j < k → el zs j ≤ d) (fun i => n - (intOf i).toNat)
      case atStart => exact ⟨0, Nat.zero_le _, rfl, fun j hj => absurd hj (by omega)⟩
      case round =>
        obtain ⟨k, hk, rfl, hle⟩ := hrel
        have HLE := Lib.hid hle
        clear hle
        by_cases hlt : k < n
        · obtain ⟨b, off, rfl, hB, hc⟩ := hz1.2 (by omega)
          have hcell := hc k hlt
          have hcell2 := hc (k - 1) (by omega)
          obtain ⟨hg0, hg1⟩ : 0 ≤ el zs k ∧ el zs k ≤ 1048576 := (HG.out k (by have := HL.out; omega)).1
          clear hc hz1
          by_cases hle2 : el zs k ≤ d
          · clear hcell2
            go_wp2
            go_round
            case rel => exact ⟨k + 1, by omega, by go_num, fun j hj => by
              by_cases h : j = k
              · subst h; exact hle2
              · exact HLE.out j (by omega)⟩
            case measure => simp [intOf]; omega
          · have hKk : K = k := by
              obtain ⟨q0, q1, q2⟩ := HK.out
              have := HL.out
              rcases Nat.lt_trichotomy K k with h | h | h
              · have := q2 (by omega); have := HLE.out K h; omega
              · exact h
              · have := q1 k h; omega
            by_cases hk0 : k = 0
            · subst hk0
              have hcell0 : w1.cell? ⟨b, off, none⟩ = some (.int .i64 (el zs 0)) := hcell
              clear hcell hcell2
              go_wp2
              go_ret2
              exact ⟨by first | rfl | (rw [hKk]; rfl), HQ.out⟩
            · obtain ⟨p0, p1⟩ : 0 ≤ el zs (k - 1) ∧ el zs (k - 1) ≤ 1048576 := (HG.out (k - 1) (by have := HL.out; omega)).1
              have hne : ((k : Int) == 0) = false := by rw [beq_eq_false_iff_ne]; omega
              have hkp : 1 ≤ k := by omega
              have HKk := Lib.hid hKk
              clear hKk
              go_wp2
              go_quiet (fail)
              go_wp2
              go_ret2
              exact ⟨by rw [HKk.out]; unfold sitV2; rw [if_pos (by omega)]; rfl, drew_more HQ.out _⟩
        · obtain rfl : k = n := by omega
          have hKk : K = k := by
            obtain ⟨q0, q1, q2⟩ := HK.out
            have := HL.out
            rcases Nat.lt_trichotomy K k with h | h | h
            · have := q2 (by omega); have := HLE.out K h; omega
            · exact h
            · omega
          by_cases hk0 : k = 0
          · subst hk0
            go_wp2
            go_ret2
            exact ⟨by first | rfl | (rw [hKk]; rfl), HQ.out⟩
          · obtain ⟨b, off, rfl, hB, hc⟩ := hz1.2 (by omega)
            have hcell2 := hc (k - 1) (by omega)
            obtain ⟨p0, p1⟩ : 0 ≤ el zs (k - 1) ∧ el zs (k - 1) ≤ 1048576 := (HG.out (k - 1) (by have := HL.out; omega)).1
            have hne : ((k : Int) == 0) = false := by rw [beq_eq_false_iff_ne]; omega
            have hkp : 1 ≤ k := by omega
            have HKk := Lib.hid hKk
            clear hKk hc hz1
            go_wp2
            go_quiet (fail)
            go_wp2
            go_ret2
            exact ⟨by rw [HKk.out]; unfold sitV2; rw [if_pos (by omega)]; rfl, drew_more HQ.out _⟩
  · have hnd : d < 0 ∨ 1048576 < d := by omega
    have hday : dayB d = false := by simp [dayB]; omega
    have e : sitV zs d K = .tuple #[.int .i64 0, .int .i64 0] := by simp [sitV, hday]
    rw [e]
    clear hd hday e hz
    go_enter Tryd.func25, Tryd.ntmps25
    go_wp2_with (go_at_call 15; refine (is_no _ _ hnd).mono ?_; rintro e w' ⟨rfl, rfl⟩)
    go_ret2
    exact ⟨rfl, 0, rfl⟩
end Go.Proofs.YtagapapnpefckaaDoor
