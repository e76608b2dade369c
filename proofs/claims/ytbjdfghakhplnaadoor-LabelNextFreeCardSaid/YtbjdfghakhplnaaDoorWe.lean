/-
  The contract of the reference's Compare.
-/
import Derived.Test.YtbjdfghakhplnaaDoorWd
namespace Go.Proofs.YtbjdfghakhplnaaDoor
open Go.RowKit (wrap32 wrap64 intOf Hid Below)
open Lab

theorem comp_same (a : Bs) : compL a a = 0 := by
  have hb : cmpB a a = 0 := by unfold cmpB; rw [if_neg (by rw [blt_irr]; simp), if_pos rfl]
  have hb2 : cmpB (splitL a).2 (splitL a).2 = 0 := by unfold cmpB; rw [if_neg (by rw [blt_irr]; simp), if_pos rfl]
  unfold compL
  by_cases h : (splitL a).1 = 0
  · rw [if_pos ⟨h, h⟩, hb]
  · rw [if_neg (fun hh => h hh.1), if_neg h, if_neg h, if_pos rfl, hb2]
theorem cmpB_ne {a b : Bs} (h : a ≠ b) : cmpB a b = if Op.bytesLess a b = true then -1 else 1 := by
  unfold cmpB
  split
  · rfl
  · rfl
/-- Both are labels, and differ. -/
theorem comp_two {a b : Bs} (ha : mayL a = true) (hb : mayL b = true) (hne : a ≠ b) : compL a b = if (splitL a).1 < (splitL b).1 ∨ ((splitL a).1 = (splitL b).1 ∧ Op.bytesLess (splitL a).2 (splitL b).2 = true) then -1 else 1 := by
  rw [comp_both ha hb]
  have hd : (splitL a).1 = (splitL b).1 → (splitL a).2 ≠ (splitL b).2 := fun h1 h2 => by
    apply hne
    rw [(may_ok ha).2, (may_ok hb).2, h1, h2]
  rcases Nat.lt_trichotomy (splitL a).1 (splitL b).1 with h | h | h
  · rw [if_neg (by unfold cmpN; rw [if_pos h]; omega), if_pos (Or.inl h)]
    unfold cmpN; rw [if_pos h]
  · rw [if_pos (by unfold cmpN; rw [if_neg (by omega), if_pos h]), cmpB_ne (hd h)]
    by_cases hl : Op.bytesLess (splitL a).2 (splitL b).2 = true
    · rw [if_pos hl, if_pos (Or.inr ⟨h, hl⟩)]
    · rw [if_neg hl, if_neg]
      rintro (h1 | ⟨_, h1⟩)
      · omega
      · exact hl h1
  · have h1 : cmpN (splitL a).1 (splitL b).1 = 1 := by unfold cmpN; rw [if_neg (by omega), if_neg (by omega)]
    rw [h1, if_neg (by omega), if_neg]
    rintro (h2 | ⟨h2, _⟩) <;> omega

set_option maxHeartbeats 4000000 in
theorem refcompare_any (a b : ByteArray) (w : World) (ha : a.size ≤ 1000000) (hb : b.size ≤ 1000000) :
    Calls Tryd.prog 16 #[.string a, .string b] w fun e w' => e = .returned (.int .i64 (compL a.data.toList b.data.toList)) ∧ Below w.heap.size w w' := by
  have hE := str_eq a b
  by_cases he : a = b
  · subst he
    have HC := Lib.hid (comp_same a.data.toList)
    rw [decide_eq_true rfl] at hE
    go_enter Tryd.func16, Tryd.ntmps16
    go_wp2
    go_ret
    exact ⟨ret_int HC.out.symm, Below.refl _ _⟩
  · rw [decide_eq_false he] at hE
    have HNe : Hid (a.data.toList ≠ b.data.toList) := Lib.hid fun hh => he (by rw [eq_mk (a := a) rfl, eq_mk (a := b) rfl, hh])
    have HL : Hid (Op.bytesLess a.toList b.toList = Op.bytesLess a.data.toList b.data.toList) := Lib.hid (by rw [ByteArray.toList_eq, ByteArray.toList_eq])
    clear he
    have HMa := Lib.hid (fun W => may_any a W ha)
    have HMb := Lib.hid (fun W => may_any b W hb)
    cases xa : mayL a.data.toList with
    | false =>
      cases xb : mayL b.data.toList with
      | false =>
        have HC : Hid (compL a.data.toList b.data.toList = if Op.bytesLess a.data.toList b.data.toList = true then -1 else 1) := Lib.hid (by rw [comp_bad xa xb, cmpB_ne HNe.out])
        rw [xa] at HMa
        rw [xb] at HMb
        cases hl : Op.bytesLess a.data.toList b.data.toList with
        | true =>
          have hL := HL.out
          rw [hl] at hL
          have HCC : Hid (compL a.data.toList b.data.toList = -1) := Lib.hid (by rw [HC.out, if_pos hl])
          clear xa xb hl HC
          go_enter Tryd.func16, Tryd.ntmps16
          go_wp2_with (go_at_call 14; (first | ((with_reducible refine (HMa.out _).mono ?_); rintro e w1 ⟨rfl, rfl⟩) | ((with_reducible refine (HMb.out _).mono ?_); rintro e w1 ⟨rfl, rfl⟩)))
          go_ret
          exact ⟨ret_int HCC.out.symm, Below.refl _ _⟩
        | false =>
          have hL := HL.out
          rw [hl] at hL
          have HCC : Hid (compL a.data.toList b.data.toList = 1) := Lib.hid (by rw [HC.out, if_neg (by rw [hl]; simp)])
          clear xa xb hl HC
          go_enter Tryd.func16, Tryd.ntmps16
          go_wp2_with (go_at_call 14; (first | ((with_reducible refine (HMa.out _).mono ?_); rintro e w1 ⟨rfl, rfl⟩) | ((with_reducible refine (HMb.out _).mono ?_); rintro e w1 ⟨rfl, rfl⟩)))
          go_ret
          exact ⟨ret_int HCC.out.symm, Below.refl _ _⟩
      | true =>
        have HC := Lib.hid (comp_left xa xb)
        rw [xa] at HMa
        rw [xb] at HMb
        clear xa xb
        go_enter Tryd.func16, Tryd.ntmps16
        go_wp2_with (go_at_call 14; (first | ((with_reducible refine (HMa.out _).mono ?_); rintro e w1 ⟨rfl, rfl⟩) | ((with_reducible refine (HMb.out _).mono ?_); rintro e w1 ⟨rfl, rfl⟩)))
        go_ret
        exact ⟨ret_int HC.out.symm, Below.refl _ _⟩
    | true =>
      cases xb : mayL b.data.toList with
      | false =>
        have HC := Lib.hid (comp_right xa xb)
        rw [xa] at HMa
        rw [xb] at HMb
        clear xa xb
        go_enter Tryd.func16, Tryd.ntmps16
        go_wp2_with (go_at_call 14; (first | ((with_reducible refine (HMa.out _).mono ?_); rintro e w1 ⟨rfl, rfl⟩) | ((with_reducible refine (HMb.out _).mono ?_); rintro e w1 ⟨rfl, rfl⟩)))
        go_ret
        exact ⟨ret_int HC.out.symm, Below.refl _ _⟩
      | true =>
        have HC := Lib.hid (comp_two xa xb HNe.out)
        rw [xa] at HMa
        rw [xb] at HMb
        have HSa : Hid (∀ W, Calls Tryd.prog 12 #[.string a] W fun e w' => e = .returned (spV a.data.toList) ∧ Below W.heap.size W w') := Lib.hid fun W => (refsplit_any a W ha).mono fun _ _ ⟨he, hq⟩ => ⟨he, drew_below hq⟩
        have HSb : Hid (∀ W, Calls Tryd.prog 12 #[.string b] W fun e w' => e = .returned (spV b.data.toList) ∧ Below W.heap.size W w') := Lib.hid fun W => (refsplit_any b W hb).mono fun _ _ ⟨he, hq⟩ => ⟨he, drew_below hq⟩
        unfold spV at HSa HSb
        obtain ⟨n, hn⟩ : ∃ n, n = (splitL a.data.toList).1 := ⟨_, rfl⟩
        obtain ⟨m, hm⟩ : ∃ m, m = (splitL b.data.toList).1 := ⟨_, rfl⟩
        obtain ⟨c, hc⟩ : ∃ c, c = (splitL a.data.toList).2 := ⟨_, rfl⟩
        obtain ⟨d, hd⟩ : ∃ d, d = (splitL b.data.toList).2 := ⟨_, rfl⟩
        rw [← hn, ← hc] at HSa
        rw [← hm, ← hd] at HSb
        rw [← hn, ← hm, ← hc, ← hd] at HC
        have hmk : ∀ l : Bs, (mk l).toList = l := fun l => by rw [ByteArray.toList_eq, mk_list]
        have HLk : Hid (Op.bytesLess (mk c).toList (mk d).toList = Op.bytesLess c d) := Lib.hid (by rw [hmk, hmk])
        clear xa xb hn hm hc hd hmk
        have key : ∀ (R : Int) (g1 g2 : Bool), (decide (n < m)) = g1 → (n = m → Op.bytesLess (mk c).toList (mk d).toList = g2) → R = (if g1 = true ∨ (n = m ∧ g2 = true) then -1 else 1) → compL a.data.toList b.data.toList = R := by
          intro R g1 g2 h1 h2 h3
          rw [HC.out, h3]
          by_cases h : n < m
          · rw [if_pos (Or.inl h), if_pos (Or.inl (by rw [← h1]; simpa using h))]
          · have hg1 : ¬ g1 = true := by rw [← h1]; simpa using h
            by_cases hnm : n = m
            · have := h2 hnm
              rw [HLk.out] at this
              rw [this]
              by_cases hg : g2 = true
              · rw [if_pos (Or.inr ⟨hnm, hg⟩), if_pos (Or.inr ⟨hnm, hg⟩)]
              · rw [if_neg, if_neg]
                · rintro (h5 | ⟨_, h5⟩)
                  · exact hg1 h5
                  · exact hg h5
                · rintro (h5 | ⟨_, h5⟩)
                  · exact h h5
                  · exact hg h5
            · rw [if_neg, if_neg]
              · rintro (h5 | ⟨h5, _⟩)
                · exact hg1 h5
                · exact hnm h5
              · rintro (h5 | ⟨h5, _⟩)
                · exact h h5
                · exact hnm h5
        have HKey := Lib.hid key
        clear key HC HLk HL
        rcases Nat.lt_trichotomy n m with h | h | h
        · have HCC := Lib.hid (HKey.out (-1) true false (by simpa using h) (fun hh => by omega) (by simp))
          go_enter Tryd.func16, Tryd.ntmps16
          go_wp2_with (first
            | (go_at_call 14; (first | ((with_reducible refine (HMa.out _).mono ?_); rintro e w1 ⟨rfl, rfl⟩) | ((with_reducible refine (HMb.out _).mono ?_); rintro e w1 ⟨rfl, rfl⟩)))
            | (go_at_call 12; (with_reducible refine (HSa.out _).mono ?_); rintro e w2 ⟨rfl, hb2⟩)
            | (go_at_call 12; (with_reducible refine (HSb.out _).mono ?_); rintro e w3 ⟨rfl, hb3⟩))
          go_ret
          exact ⟨ret_int HCC.out.symm, hb2.trans (hb3.mono hb2.size)⟩
        · subst h
          have enn : ((n : Int) == (n : Int)) = true := by simp
          cases hl : Op.bytesLess (mk c).toList (mk d).toList with
          | true =>
            have HCC := Lib.hid (HKey.out (-1) false true (by simp) (fun _ => hl) (by simp))
            go_enter Tryd.func16, Tryd.ntmps16
            go_wp2_with (first
              | (go_at_call 14; (first | ((with_reducible refine (HMa.out _).mono ?_); rintro e w1 ⟨rfl, rfl⟩) | ((with_reducible refine (HMb.out _).mono ?_); rintro e w1 ⟨rfl, rfl⟩)))
              | (go_at_call 12; (with_reducible refine (HSa.out _).mono ?_); rintro e w2 ⟨rfl, hb2⟩)
              | (go_at_call 12; (with_reducible refine (HSb.out _).mono ?_); rintro e w3 ⟨rfl, hb3⟩))
            go_ret
            exact ⟨ret_int HCC.out.symm, hb2.trans (hb3.mono hb2.size)⟩
          | false =>
            have HCC := Lib.hid (HKey.out 1 false false (by simp) (fun _ => hl) (by simp))
            go_enter Tryd.func16, Tryd.ntmps16
            go_wp2_with (first
              | (go_at_call 14; (first | ((with_reducible refine (HMa.out _).mono ?_); rintro e w1 ⟨rfl, rfl⟩) | ((with_reducible refine (HMb.out _).mono ?_); rintro e w1 ⟨rfl, rfl⟩)))
              | (go_at_call 12; (with_reducible refine (HSa.out _).mono ?_); rintro e w2 ⟨rfl, hb2⟩)
              | (go_at_call 12; (with_reducible refine (HSb.out _).mono ?_); rintro e w3 ⟨rfl, hb3⟩))
            go_ret
            exact ⟨ret_int HCC.out.symm, hb2.trans (hb3.mono hb2.size)⟩
        · have HCC := Lib.hid (HKey.out 1 false false (by simp; omega) (fun hh => by omega) (by simp))
          have enm : ((n : Int) == (m : Int)) = false := by rw [beq_eq_false_iff_ne]; omega
          go_enter Tryd.func16, Tryd.ntmps16
          go_wp2_with (first
            | (go_at_call 14; (first | ((with_reducible refine (HMa.out _).mono ?_); rintro e w1 ⟨rfl, rfl⟩) | ((with_reducible refine (HMb.out _).mono ?_); rintro e w1 ⟨rfl, rfl⟩)))
            | (go_at_call 12; (with_reducible refine (HSa.out _).mono ?_); rintro e w2 ⟨rfl, hb2⟩)
            | (go_at_call 12; (with_reducible refine (HSb.out _).mono ?_); rintro e w3 ⟨rfl, hb3⟩))
          go_ret
          exact ⟨ret_int HCC.out.symm, hb2.trans (hb3.mono hb2.size)⟩
end Go.Proofs.YtbjdfghakhplnaaDoor
