/-
  LabelCompare: the law returns true for every three strings.
-/
import Derived.Test.YtbjdfghakhplnaaDoorLawS
namespace Go.Proofs.YtbjdfghakhplnaaDoor
open Go.RowKit (wrap32 wrap64 intOf Hid Below)
open Lab

/-- The key by which labels and other strings are ordered. -/
def kN (a : Bs) : Nat := if (splitL a).1 = 0 then 10000 else (splitL a).1
def kC (a : Bs) : Bs := if (splitL a).1 = 0 then a else (splitL a).2
def cK (n : Nat) (c : Bs) (m : Nat) (d : Bs) : Int := if n = m then cmpB c d else cmpN n m
theorem split_lt (a : Bs) : (splitL a).1 < 10000 := by
  cases h : mayL a with
  | false => rw [(split_zero a).2 h]; omega
  | true => have := (may_ok h).1.2.1; omega
theorem comp_key (a b : Bs) : compL a b = cK (kN a) (kC a) (kN b) (kC b) := by
  have h1 := split_lt a
  have h2 := split_lt b
  unfold compL cK kN kC
  by_cases ha : (splitL a).1 = 0
  · by_cases hb : (splitL b).1 = 0
    · rw [if_pos ⟨ha, hb⟩, if_pos ha, if_pos hb, if_pos rfl, if_pos ha, if_pos hb]
    · rw [if_neg (fun h => hb h.2), if_pos ha, if_pos ha, if_neg hb, if_neg (by omega)]
      unfold cmpN
      rw [if_neg (by omega), if_neg (by omega)]
  · by_cases hb : (splitL b).1 = 0
    · rw [if_neg (fun h => ha h.1), if_neg ha, if_pos hb, if_neg ha, if_pos hb, if_neg (by omega)]
      unfold cmpN
      rw [if_pos (by omega)]
    · rw [if_neg (fun h => ha h.1), if_neg ha, if_neg hb, if_neg ha, if_neg hb, if_neg ha, if_neg hb]
theorem ck_cases (n : Nat) (c : Bs) (m : Nat) (d : Bs) : (Lt n c m d ∧ cK n c m d = -1) ∨ ((n = m ∧ c = d) ∧ cK n c m d = 0) ∨ (Lt m d n c ∧ cK n c m d = 1) := by
  unfold cK
  rcases Lt.tri n c m d with h | ⟨rfl, rfl⟩ | h
  · refine Or.inl ⟨h, ?_⟩
    rcases h with h | ⟨rfl, h⟩
    · rw [if_neg (by omega)]; unfold cmpN; rw [if_pos h]
    · rw [if_pos rfl]; unfold cmpB; rw [if_pos h]
  · refine Or.inr (Or.inl ⟨⟨rfl, rfl⟩, ?_⟩)
    rw [if_pos rfl]; unfold cmpB; rw [if_neg (by rw [blt_irr]; decide), if_pos rfl]
  · refine Or.inr (Or.inr ⟨h, ?_⟩)
    rcases h with h | ⟨rfl, h⟩
    · rw [if_neg (by omega)]; unfold cmpN; rw [if_neg (by omega), if_neg (by omega)]
    · rw [if_pos rfl]
      unfold cmpB
      rw [if_neg (by rw [blt_asymm h]; decide), if_neg (by rintro rfl; rw [blt_irr] at h; cases h)]
theorem comp_tri (a b : Bs) : compL a b = -1 ∨ compL a b = 0 ∨ compL a b = 1 := by
  rw [comp_key]
  rcases ck_cases (kN a) (kC a) (kN b) (kC b) with h | h | h
  · exact Or.inl h.2
  · exact Or.inr (Or.inl h.2)
  · exact Or.inr (Or.inr h.2)
theorem comp_anti (a b : Bs) : compL b a = -compL a b := by
  rw [comp_key, comp_key]
  rcases ck_cases (kN a) (kC a) (kN b) (kC b) with ⟨h, e⟩ | ⟨h, e⟩ | ⟨h, e⟩
  · rcases ck_cases (kN b) (kC b) (kN a) (kC a) with ⟨g, f⟩ | ⟨g, f⟩ | ⟨g, f⟩
    · exact absurd (h.trans g) Lt.irr
    · rw [g.1, g.2] at h; exact absurd h Lt.irr
    · omega
  · rcases ck_cases (kN b) (kC b) (kN a) (kC a) with ⟨g, f⟩ | ⟨g, f⟩ | ⟨g, f⟩
    · rw [h.1, h.2] at g; exact absurd g Lt.irr
    · omega
    · rw [h.1, h.2] at g; exact absurd g Lt.irr
  · rcases ck_cases (kN b) (kC b) (kN a) (kC a) with ⟨g, f⟩ | ⟨g, f⟩ | ⟨g, f⟩
    · omega
    · rw [g.1, g.2] at h; exact absurd h Lt.irr
    · exact absurd (h.trans g) Lt.irr
theorem comp_trans (a b c : Bs) : (0 < compL a b ∨ 0 < compL b c ∨ compL a c ≤ 0) ∧ (0 ≤ compL a b ∨ 0 ≤ compL b c ∨ compL a c < 0) := by
  rw [comp_key a b, comp_key b c, comp_key a c]
  rcases ck_cases (kN a) (kC a) (kN b) (kC b) with ⟨h, e⟩ | ⟨h, e⟩ | ⟨h, e⟩
  · rcases ck_cases (kN b) (kC b) (kN c) (kC c) with ⟨g, f⟩ | ⟨g, f⟩ | ⟨g, f⟩
    · rcases ck_cases (kN a) (kC a) (kN c) (kC c) with ⟨k, l⟩ | ⟨k, l⟩ | ⟨k, l⟩
      · omega
      · rw [k.1, k.2] at h; exact absurd (h.trans g) Lt.irr
      · exact absurd ((h.trans g).trans k) Lt.irr
    · rw [g.1, g.2] at e h; omega
    · omega
  · rw [h.1, h.2] at e ⊢; omega
  · omega

set_option maxHeartbeats 2000000 in
theorem lawCompare {a0 a1 a2 : ByteArray} {w : World} (hT : Tab w) :
    Calls Tryd.prog 4 #[.string a0, .string a1, .string a2] w fun e w' => e = .returned (.bool true) ∧ Below w.heap.size w w' := by
  have HA := Lib.hid (awake_c w hT)
  have hb0 := Below.refl w.heap.size w
  by_cases c0 : a0.size > 100
  · clear hT
    go_enter Tryd.func4, Tryd.ntmps4
    go_wp2_with (first
      | (go_at_call 10; ((with_reducible refine (HA.out _ (by assumption)).mono ?_); rintro e w1 ⟨rfl, hb1⟩)))
    go_ret
    exact ⟨rfl, hb1⟩
  by_cases c1 : a1.size > 100
  · clear hT
    go_enter Tryd.func4, Tryd.ntmps4
    go_wp2_with (first
      | (go_at_call 10; ((with_reducible refine (HA.out _ (by assumption)).mono ?_); rintro e w1 ⟨rfl, hb1⟩)))
    go_ret
    exact ⟨rfl, hb1⟩
  by_cases c2 : a2.size > 100
  · clear hT
    go_enter Tryd.func4, Tryd.ntmps4
    go_wp2_with (first
      | (go_at_call 10; ((with_reducible refine (HA.out _ (by assumption)).mono ?_); rintro e w1 ⟨rfl, hb1⟩)))
    go_ret
    exact ⟨rfl, hb1⟩
  have H1 := Lib.hid (compare_c a0 a1 w hT (by omega) (by omega))
  have H2 := Lib.hid (compare_c a1 a2 w hT (by omega) (by omega))
  have H3 := Lib.hid (compare_c a0 a2 w hT (by omega) (by omega))
  have H4 := Lib.hid (compare_c a1 a0 w hT (by omega) (by omega))
  have R1 := Lib.hid (refcompare_c a0 a1 w (by omega) (by omega))
  have R2 := Lib.hid (refcompare_c a1 a2 w (by omega) (by omega))
  have R3 := Lib.hid (refcompare_c a0 a2 w (by omega) (by omega))
  rw [comp_anti a0.data.toList a1.data.toList] at H4
  have ht := comp_trans a0.data.toList a1.data.toList a2.data.toList
  have hx3 := comp_tri a0.data.toList a1.data.toList
  have hy3 := comp_tri a1.data.toList a2.data.toList
  have hz3 := comp_tri a0.data.toList a2.data.toList
  obtain ⟨x, hx⟩ : ∃ x, x = compL a0.data.toList a1.data.toList := ⟨_, rfl⟩
  obtain ⟨y, hy⟩ : ∃ y, y = compL a1.data.toList a2.data.toList := ⟨_, rfl⟩
  obtain ⟨z, hz⟩ : ∃ z, z = compL a0.data.toList a2.data.toList := ⟨_, rfl⟩
  rw [← hx] at H1 R1 H4 ht hx3
  rw [← hy] at H2 R2 ht hy3
  rw [← hz] at H3 R3 ht hz3
  clear hT hx hy hz
  go_enter Tryd.func4, Tryd.ntmps4
  go_wp2_with fail
  with_reducible refine (HA.out _ (by assumption)).mono ?_
  rintro e w1 ⟨rfl, hb1⟩
  go_wp2_with fail
  with_reducible refine (H1.out _ (by assumption)).mono ?_
  rintro e w1 ⟨rfl, hb1⟩
  go_wp2_with fail
  with_reducible refine (H2.out _ (by assumption)).mono ?_
  rintro e w1 ⟨rfl, hb1⟩
  go_wp2_with fail
  with_reducible refine (H3.out _ (by assumption)).mono ?_
  rintro e w1 ⟨rfl, hb1⟩
  go_wp2_with fail
  with_reducible refine (R1.out _ (by assumption)).mono ?_
  rintro e w1 ⟨rfl, hb1⟩
  go_wp2_with fail
  with_reducible refine (R2.out _ (by assumption)).mono ?_
  rintro e w1 ⟨rfl, hb1⟩
  go_wp2_with fail
  with_reducible refine (R3.out _ (by assumption)).mono ?_
  rintro e w1 ⟨rfl, hb1⟩
  go_wp2_with fail
  with_reducible refine (H4.out _ (by assumption)).mono ?_
  rintro e w1 ⟨rfl, hb1⟩
  rcases hx3 with rfl | rfl | rfl <;> rcases hy3 with rfl | rfl | rfl <;> rcases hz3 with rfl | rfl | rfl <;> first | (exfalso; omega) | (go_wp2_with fail; go_ret; exact ⟨rfl, hb1⟩)
end Go.Proofs.YtbjdfghakhplnaaDoor
