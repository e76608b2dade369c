/-
  Contracts of the check of a list of sittings and of Sitting, the program's and the reference's.
-/
import Derived.Test.YtagapapnpefckaaDoorSit
namespace Go.Proofs.YtagapapnpefckaaDoor
open Go.RowKit (wrap32 wrap64 intOf Hid Below)
open Cal

set_option maxHeartbeats 400000 in
theorem contains_any (zs : List Int) (B n c : Nat) (A : Option Addr) (w : World) (hz : IntsAt B w A n zs) (hn : n ≤ 1000) (hbox : Box B w w (-1)) :
    Calls Tryd.prog 38 #[.slice A n c, .func (.func 39) #[] #[.pointer (some ⟨B, 0, none⟩)]] w fun e w' => e = .returned (.bool (!goodB zs)) ∧ Below B w w' := by
  go_enter Tryd.func38, Tryd.ntmps38
  go_wp2_with (go_at_call 41; refine (index_any zs B n c A _ hz hn hbox).mono ?_; rintro e w' ⟨⟨r, rfl, hr⟩, hb⟩; have HR := Lib.hid hr; clear hr)
  all_goals
    go_ret
    exact ⟨ret_bool (by rw [← HR.out]; first | done | rfl | (symm; simp; omega)), hb⟩

/-- Is it a list of sittings? -/
def sitB (zs : List Int) : Bool := decide (zs.length ≤ 64) && goodB zs
set_option maxHeartbeats 400000 in
theorem valid_any (zs : List Int) (n c : Nat) (A : Option Addr) (w : World) (hz : IntsAt w.heap.size w A n zs) (hn : n ≤ maxLen) :
    Calls Tryd.prog 36 #[.slice A n c] w fun e w' => e = .returned (.bool (sitB zs)) ∧ Below w.heap.size w w' := by
  have hmf : ∀ (fn : Fn) (first cap : Array Value) (w : World), (Instr.makeFunc fn first cap).run Tryd.prog w = .ok (.func fn first cap) w := fun _ _ _ _ => rfl
  have HL := Lib.hid hz.1
  unfold maxLen at hn
  by_cases h64 : 64 < n
  · clear hz
    go_enter Tryd.func36, Tryd.ntmps36
    go_wp2
    go_ret
    exact ⟨ret_bool (by have := HL.out; simp [sitB]; omega), Below.refl _ _⟩
  · have hb0 : Below w.heap.size w (w.alloc (.cells #[.int .i64 (-1)] 3)) := (Below.refl _ _).alloc (Nat.le_refl _) _
    have hz1 := hz.below hb0
    have hbox : Box w.heap.size (w.alloc (.cells #[.int .i64 (-1)] 3)) (w.alloc (.cells #[.int .i64 (-1)] 3)) (-1) := ⟨Below.refl _ _, by simp, by simp, by simp⟩
    have HZ := Lib.hid hz1
    have HX := Lib.hid hbox
    have HB0 := Lib.hid hb0
    clear hz hz1 hbox hb0
    go_enter Tryd.func36, Tryd.ntmps36
    go_wp2_with (go_at_call 38; refine (contains_any zs w.heap.size n c A _ HZ.out (by omega) HX.out).mono ?_; rintro e w' ⟨rfl, hb⟩)
    go_ret
    exact ⟨ret_bool (by have := HL.out; simp [sitB]; omega), HB0.out.trans hb⟩

/-- How many elements come first that are on or before the day. -/
def CountIs (zs : List Int) (d : Int) (k : Nat) : Prop := k ≤ zs.length ∧ (∀ j, j < k → el zs j ≤ d) ∧ (k < zs.length → d < el zs k)
theorem count_exists (zs : List Int) (d : Int) : ∀ m, ∃ k, k ≤ zs.length ∧ (∀ j, j < k → el zs j ≤ d) ∧ ((k < zs.length → d < el zs k) ∨ k = m)
  | 0 => ⟨0, Nat.zero_le _, fun j hj => absurd hj (by omega), Or.inr rfl⟩
  | m + 1 => by
    obtain ⟨k, h0, h1, h2⟩ := count_exists zs d m
    rcases h2 with h2 | rfl
    · exact ⟨k, h0, h1, Or.inl h2⟩
    · by_cases hk : k < zs.length
      · by_cases hd : el zs k ≤ d
        · exact ⟨k + 1, by omega, fun j hj => by
            by_cases h : j = k
            · subst h; exact hd
            · exact h1 j (by omega), Or.inr rfl⟩
        · exact ⟨k, h0, h1, Or.inl fun _ => by omega⟩
      · exact ⟨k, h0, h1, Or.inl fun h => absurd h hk⟩
theorem count_of (zs : List Int) (d : Int) : ∃ k, CountIs zs d k := by
  obtain ⟨k, h0, h1, h2⟩ := count_exists zs d (zs.length + 1)
  rcases h2 with h2 | h2
  · exact ⟨k, h0, h1, h2⟩
  · omega

theorem good_all {zs : List Int} (h : goodB zs = true) (k : Nat) (hk : k < zs.length) : goodAt zs k := by
  unfold goodB at h
  rw [decide_eq_true_iff] at h
  exact h k hk

/-- What Sitting answers at a day of a list of sittings. -/
def sitV2 (zs : List Int) (d : Int) (k : Nat) : Value := if 0 < k then .tuple #[.int .i64 k, .int .i64 (d - el zs (k - 1) + 1)] else .tuple #[.int .i64 0, .int .i64 0]
/-- What Sitting answers. -/
def sitV (zs : List Int) (d : Int) (k : Nat) : Value :=
  if dayB d && sitB zs && decide (0 < k) then .tuple #[.int .i64 k, .int .i64 (d - el zs (k - 1) + 1)] else .tuple #[.int .i64 0, .int .i64 0]

set_option maxHeartbeats 800000 in
theorem sitting_any (zs : List Int) (d : Int) (K n c : Nat) (A : Option Addr) (w : World) (hz : IntsAt w.heap.size w A n zs) (hn : n ≤ maxLen) (hK : CountIs zs d K) :
    Calls Tryd.prog 24 #[.slice A n c, .int .i64 d] w fun e w' => e = .returned (sitV zs d K) ∧ Below w.heap.size w w' := by
  have HV : Hid (∀ W, Below w.heap.size w W → W.heap.size = w.heap.size → Calls Tryd.prog 36 #[.slice A n c] W fun e w' => e = .returned (.bool (sitB zs)) ∧ Below w.heap.size W w') := Lib.hid fun W hb he => by
    have := valid_any zs n c A W (by rw [he]; exact hz.below hb) hn
    rw [he] at this
    exact this
  have hnn := hn
  unfold maxLen at hn
  have HL := Lib.hid hz.1
  by_cases hd : 0 ≤ d ∧ d ≤ 1048576
  · obtain ⟨d0, d1⟩ := hd
    have hday : dayB d = true := by simp [dayB, d0, d1]
    cases hs : sitB zs
    · have e : sitV zs d K = .tuple #[.int .i64 0, .int .i64 0] := by simp [sitV, hs]
      rw [hs] at HV
      rw [e]
      clear e hz
      have HS := Lib.hid hs
      clear hs hday
      go_enter Tryd.func24, Tryd.ntmps24
      go_wp2_with (first
        | (go_at_call 27; refine (isDay_yes _ _ d0 d1).mono ?_; rintro e w' ⟨rfl, rfl⟩)
        | (go_at_call 36; refine (HV.out _ (Below.refl _ _) rfl).mono ?_; rintro e w' ⟨rfl, hb⟩))
      go_ret2
      exact ⟨rfl, hb⟩
    · have hg : goodB zs = true := by simp [sitB] at hs; exact hs.2
      have h64 : zs.length ≤ 64 := by simp [sitB] at hs; exact hs.1
      have HG : Hid (∀ k, k < zs.length → goodAt zs k) := Lib.hid (good_all hg)
      have e : sitV zs d K = sitV2 zs d K := by simp [sitV, sitV2, hs, hday]
      rw [hs] at HV
      rw [e]
      have HK := Lib.hid hK
      clear e hs hday hg hK
      have hn64 : n ≤ 64 := by have := HL.out; omega
      clear h64
      go_enter Tryd.func24, Tryd.ntmps24
      go_wp2_with (first
        | (go_at_call 27; refine (isDay_yes _ _ d0 d1).mono ?_; rintro e w' ⟨rfl, rfl⟩)
        | (go_at_call 36; refine (HV.out _ (Below.refl _ _) rfl).mono ?_; rintro e w1 ⟨rfl, hb⟩))
      have hz1 := hz.below hb
      go_loop [6, 7] (fun i s => ∃ k : Nat, k ≤ n ∧ i = .int .i64 k ∧ s = .int .i64 (if k = 0 then 0 else el zs (k - 1)) ∧ ∀ j, j < k → el zs j ≤ d) (fun i _ => n - (intOf i).toNat)
      case atStart => exact ⟨0, Nat.zero_le _, rfl, rfl, fun j hj => absurd hj (by omega)⟩
      case round =>
        obtain ⟨k, hk, rfl, rfl, hle⟩ := hrel
        have HLE := Lib.hid hle
        clear hle
        by_cases hlt : k < n
        · obtain ⟨b, off, rfl, hB, hc⟩ := hz1.2 (by omega)
          have hcell := hc k hlt
          have hgd : 0 ≤ el zs k ∧ el zs k ≤ 1048576 := (HG.out k (by have := HL.out; omega)).1
          obtain ⟨hg0, hg1⟩ := hgd
          clear hc hz1 hz
          by_cases hle2 : el zs k ≤ d
          · go_wp2
            go_round
            case rel => exact ⟨k + 1, by omega, by go_num, by simp, fun j hj => by
              by_cases h : j = k
              · subst h; exact hle2
              · exact HLE.out j (by omega)⟩
            case measure => simp [intOf]; omega
          · have hKk : K = k := by
              obtain ⟨q0, q1, q2⟩ := HK.out
              have := HL.out
              rcases Nat.lt_trichotomy K k with h | h | h
              · have := q2 (by omega); have := HLE.out K h; omega
              · exact h
              · have := q1 k h; omega
            by_cases hk0 : k = 0
            · subst hk0
              have hcell0 : w1.cell? ⟨b, off, none⟩ = some (.int .i64 (el zs 0)) := hcell
              clear hcell
              go_wp2
              go_ret2
              exact ⟨by first | rfl | (rw [hKk]; rfl), hb⟩
            · have hprev : 0 ≤ el zs (k - 1) ∧ el zs (k - 1) ≤ 1048576 := (HG.out (k - 1) (by have := HL.out; omega)).1
              obtain ⟨p0, p1⟩ := hprev
              have hne : ((k : Int) == 0) = false := by rw [beq_eq_false_iff_ne]; omega
              simp only [hk0, if_false]
              have HKk := Lib.hid hKk
              clear hKk
              go_wp2
              go_ret2
              exact ⟨by rw [HKk.out]; unfold sitV2; rw [if_pos (by omega)]; rfl, hb⟩
        · obtain rfl : k = n := by omega
          have hKk : K = k := by
            obtain ⟨q0, q1, q2⟩ := HK.out
            have := HL.out
            rcases Nat.lt_trichotomy K k with h | h | h
            · have := q2 (by omega); have := HLE.out K h; omega
            · exact h
            · omega
          by_cases hk0 : k = 0
          · subst hk0
            go_wp2
            go_ret2
            exact ⟨by first | rfl | (rw [hKk]; rfl), hb⟩
          · have hprev : 0 ≤ el zs (k - 1) ∧ el zs (k - 1) ≤ 1048576 := (HG.out (k - 1) (by have := HL.out; omega)).1
            obtain ⟨p0, p1⟩ := hprev
            have hne : ((k : Int) == 0) = false := by rw [beq_eq_false_iff_ne]; omega
            simp only [hk0, if_false]
            have HKk := Lib.hid hKk
            clear hKk
            go_wp2
            go_ret2
            exact ⟨by rw [HKk.out]; unfold sitV2; rw [if_pos (by omega)]; rfl, hb⟩
  · have hnd : d < 0 ∨ 1048576 < d := by omega
    have hday : dayB d = false := by simp [dayB]; omega
    have e : sitV zs d K = .tuple #[.int .i64 0, .int .i64 0] := by simp [sitV, hday]
    rw [e]
    clear hd hday e hz
    go_enter Tryd.func24, Tryd.ntmps24
    go_wp2_with (go_at_call 27; refine (isDay_no _ _ hnd).mono ?_; rintro e w' ⟨rfl, rfl⟩)
    go_ret2
    exact ⟨rfl, Below.refl _ _⟩
end Go.Proofs.YtagapapnpefckaaDoor
