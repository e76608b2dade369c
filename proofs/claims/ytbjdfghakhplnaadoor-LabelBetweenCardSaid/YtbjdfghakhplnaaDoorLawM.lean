/-
  LabelBetweenMinimal: the law returns true for every three strings.
-/
import Derived.Test.YtbjdfghakhplnaaDoorLawN
namespace Go.Proofs.YtbjdfghakhplnaaDoor
open Go.RowKit (wrap32 wrap64 intOf Hid Below)
open Lab

theorem between_c (a b : ByteArray) (w : World) (hT : Tab w) (ha : a.size ≤ 1000) (hb : b.size ≤ 1000) : ∀ W, Below w.heap.size w W → Calls Tryd.prog 19 #[.string a, .string b] W fun e w' => BtRet a.data.toList b.data.toList e ∧ Below w.heap.size w w' := fun W h =>
  (between_any a b W (hT.below h) ha hb).mono fun _ _ ⟨he, h2⟩ => ⟨he, h.trans (h2.mono h.size)⟩
/-- What lies between two texts. -/
theorem there_of {a b o : Bs} (ha : mayL a = true) (hb : mayL b = true) (ho : mayL o = true) (h1 : compL a o < 0) (h2 : compL o b < 0) :
    Ok (splitL o).1 (splitL o).2 ∧ Bet (splitL a).1 (splitL a).2 (splitL b).1 (splitL b).2 (splitL o).1 (splitL o).2 := by
  have o1 := may_ok ha
  have o2 := may_ok hb
  have o3 := may_ok ho
  refine ⟨o3.1, (comp_lt o1.1 o3.1).1 ?_, (comp_lt o3.1 o2.1).1 ?_⟩
  · rw [← o1.2, ← o3.2]; exact h1
  · rw [← o3.2, ← o2.2]; exact h2
theorem min_none {a b o : Bs} (h : BestL a b none) (ha : mayL a = true) (hb : mayL b = true) (ho : mayL o = true) (h1 : compL a o < 0) (h2 : compL o b < 0) : False := by
  unfold BestL at h
  rw [if_pos ⟨ha, hb⟩] at h
  have ht := there_of ha hb ho h1 h2
  exact h _ _ ht.1 ht.2
theorem min_some {a b : Bs} {q : Nat} {f : Bs} (h : BestL a b (some (q, f))) : Ok q f ∧ mayL a = true ∧ mayL b = true ∧ compL a (txt q f) = -1 ∧ compL (txt q f) b = -1 ∧
    ∀ o, mayL o = true → compL a o < 0 → compL o b < 0 → f.length < (splitL o).2.length ∨ f.length = (splitL o).2.length ∧ compL (txt q f) o ≤ 0 := by
  unfold BestL at h
  by_cases hm : mayL a = true ∧ mayL b = true
  · rw [if_pos hm] at h
    have o1 := may_ok hm.1
    have o2 := may_ok hm.2
    obtain ⟨hq, hbet, hmin⟩ := h
    refine ⟨hq, hm.1, hm.2, ?_, ?_, fun o ho h1 h2 => ?_⟩
    · have := comp_neg o1.1 hq hbet.1
      rwa [← o1.2] at this
    · have := comp_neg hq o2.1 hbet.2
      rwa [← o2.2] at this
    · have ht := there_of hm.1 hm.2 ho h1 h2
      have o3 := may_ok ho
      rcases hmin _ _ ht.1 ht.2 with g | ⟨g, k⟩
      · exact Or.inl g
      · refine Or.inr ⟨g, ?_⟩
        have := (comp_le hq o3.1).2 k
        rwa [← o3.2] at this
  · rw [if_neg hm] at h
    cases h

set_option maxHeartbeats 4000000 in
theorem lawMin {a0 a1 a2 : ByteArray} {w : World} (hT : Tab w) :
    Calls Tryd.prog 7 #[.string a0, .string a1, .string a2] w fun e w' => e = .returned (.bool true) ∧ Below w.heap.size w w' := by
  have HA := Lib.hid (awake_c w hT)
  have hb0 := Below.refl w.heap.size w
  by_cases c0 : a0.size > 100
  · clear hT
    go_enter Tryd.func7, Tryd.ntmps7
    go_wp2_with (first
      | (go_at_call 10; ((with_reducible refine (HA.out _ (by assumption)).mono ?_); rintro e w1 ⟨rfl, hb1⟩)))
    go_ret
    exact ⟨by first | rfl | (apply ret_bool; simp; done) | (apply ret_bool; simp; omega), hb1⟩
  by_cases c1 : a1.size > 100
  · clear hT
    go_enter Tryd.func7, Tryd.ntmps7
    go_wp2_with (first
      | (go_at_call 10; ((with_reducible refine (HA.out _ (by assumption)).mono ?_); rintro e w1 ⟨rfl, hb1⟩)))
    go_ret
    exact ⟨by first | rfl | (apply ret_bool; simp; done) | (apply ret_bool; simp; omega), hb1⟩
  by_cases c2 : a2.size > 100
  · clear hT
    go_enter Tryd.func7, Tryd.ntmps7
    go_wp2_with (first
      | (go_at_call 10; ((with_reducible refine (HA.out _ (by assumption)).mono ?_); rintro e w1 ⟨rfl, hb1⟩)))
    go_ret
    exact ⟨by first | rfl | (apply ret_bool; simp; done) | (apply ret_bool; simp; omega), hb1⟩
  have HB := Lib.hid (between_c a0 a1 w hT (by omega) (by omega))
  have HVa := Lib.hid (valid_c a0 w hT (by omega))
  have HVb := Lib.hid (valid_c a1 w hT (by omega))
  have HVo := Lib.hid (valid_c a2 w hT (by omega))
  have HX := Lib.hid (compare_c a0 a2 w hT (by omega) (by omega))
  have HY := Lib.hid (compare_c a2 a1 w hT (by omega) (by omega))
  have HSo := Lib.hid (split_c a2 w hT (by omega))
  have hE0 := str_eq ⟨#[]⟩ ⟨#[]⟩
  rw [decide_eq_true rfl] at hE0
  have HTab := Lib.hid hT
  clear hT
  go_enter Tryd.func7, Tryd.ntmps7
  go_wp2_with fail
  with_reducible refine (HA.out _ (by assumption)).mono ?_
  rintro e w1 ⟨rfl, hb1⟩
  go_wp2_with fail
  with_reducible refine (HB.out _ (by assumption)).mono ?_
  rintro e w2 ⟨⟨R, hR, rfl⟩, hb1⟩
  cases R with
  | none =>
    unfold btV
    simp only
    have HK : mayL a0.data.toList = true → mayL a1.data.toList = true → mayL a2.data.toList = true → compL a0.data.toList a2.data.toList < 0 → compL a2.data.toList a1.data.toList < 0 → False := min_none hR
    clear hR HSo HTab
    obtain ⟨x, hx⟩ : ∃ x, x = compL a0.data.toList a2.data.toList := ⟨_, rfl⟩
    obtain ⟨y, hy⟩ : ∃ y, y = compL a2.data.toList a1.data.toList := ⟨_, rfl⟩
    rw [← hx] at HX HK
    rw [← hy] at HY HK
    clear hx hy
    cases va : mayL a0.data.toList with
    | false =>
      rw [va] at HVa
      clear HK va
      go_wp2_with (first
        | (go_at_call 13; ((with_reducible refine (HVa.out _ (by assumption)).mono ?_); rintro e w1 ⟨rfl, hb1⟩))
        | (go_at_call 13; ((with_reducible refine (HVb.out _ (by assumption)).mono ?_); rintro e w1 ⟨rfl, hb1⟩))
        | (go_at_call 13; ((with_reducible refine (HVo.out _ (by assumption)).mono ?_); rintro e w1 ⟨rfl, hb1⟩))
        | (go_at_call 15; ((with_reducible refine (HX.out _ (by assumption)).mono ?_); rintro e w1 ⟨rfl, hb1⟩))
        | (go_at_call 15; ((with_reducible refine (HY.out _ (by assumption)).mono ?_); rintro e w1 ⟨rfl, hb1⟩)))
      go_ret
      exact ⟨by first | rfl | (apply ret_bool; simp; done) | (apply ret_bool; simp; omega), hb1⟩
    | true =>
      rw [va] at HVa
      cases vb : mayL a1.data.toList with
      | false =>
        rw [vb] at HVb
        clear HK va vb
        go_wp2_with (first
          | (go_at_call 13; ((with_reducible refine (HVa.out _ (by assumption)).mono ?_); rintro e w1 ⟨rfl, hb1⟩))
          | (go_at_call 13; ((with_reducible refine (HVb.out _ (by assumption)).mono ?_); rintro e w1 ⟨rfl, hb1⟩))
          | (go_at_call 13; ((with_reducible refine (HVo.out _ (by assumption)).mono ?_); rintro e w1 ⟨rfl, hb1⟩))
          | (go_at_call 15; ((with_reducible refine (HX.out _ (by assumption)).mono ?_); rintro e w1 ⟨rfl, hb1⟩))
          | (go_at_call 15; ((with_reducible refine (HY.out _ (by assumption)).mono ?_); rintro e w1 ⟨rfl, hb1⟩)))
        go_ret
        exact ⟨by first | rfl | (apply ret_bool; simp; done) | (apply ret_bool; simp; omega), hb1⟩
      | true =>
        rw [vb] at HVb
        cases vo : mayL a2.data.toList with
        | false =>
          rw [vo] at HVo
          clear HK va vb vo
          go_wp2_with (first
            | (go_at_call 13; ((with_reducible refine (HVa.out _ (by assumption)).mono ?_); rintro e w1 ⟨rfl, hb1⟩))
            | (go_at_call 13; ((with_reducible refine (HVb.out _ (by assumption)).mono ?_); rintro e w1 ⟨rfl, hb1⟩))
            | (go_at_call 13; ((with_reducible refine (HVo.out _ (by assumption)).mono ?_); rintro e w1 ⟨rfl, hb1⟩))
            | (go_at_call 15; ((with_reducible refine (HX.out _ (by assumption)).mono ?_); rintro e w1 ⟨rfl, hb1⟩))
            | (go_at_call 15; ((with_reducible refine (HY.out _ (by assumption)).mono ?_); rintro e w1 ⟨rfl, hb1⟩)))
          go_ret
          exact ⟨by first | rfl | (apply ret_bool; simp; done) | (apply ret_bool; simp; omega), hb1⟩
        | true =>
          rw [vo] at HVo
          by_cases c3 : x < 0
          · by_cases c4 : y < 0
            · exact (HK va vb vo c3 c4).elim
            · clear HK va vb vo
              go_wp2_with (first
                | (go_at_call 13; ((with_reducible refine (HVa.out _ (by assumption)).mono ?_); rintro e w1 ⟨rfl, hb1⟩))
                | (go_at_call 13; ((with_reducible refine (HVb.out _ (by assumption)).mono ?_); rintro e w1 ⟨rfl, hb1⟩))
                | (go_at_call 13; ((with_reducible refine (HVo.out _ (by assumption)).mono ?_); rintro e w1 ⟨rfl, hb1⟩))
                | (go_at_call 15; ((with_reducible refine (HX.out _ (by assumption)).mono ?_); rintro e w1 ⟨rfl, hb1⟩))
                | (go_at_call 15; ((with_reducible refine (HY.out _ (by assumption)).mono ?_); rintro e w1 ⟨rfl, hb1⟩)))
              go_ret
              exact ⟨by first | rfl | (apply ret_bool; simp; done) | (apply ret_bool; simp; omega), hb1⟩
          · clear HK va vb vo
            go_wp2_with (first
              | (go_at_call 13; ((with_reducible refine (HVa.out _ (by assumption)).mono ?_); rintro e w1 ⟨rfl, hb1⟩))
              | (go_at_call 13; ((with_reducible refine (HVb.out _ (by assumption)).mono ?_); rintro e w1 ⟨rfl, hb1⟩))
              | (go_at_call 13; ((with_reducible refine (HVo.out _ (by assumption)).mono ?_); rintro e w1 ⟨rfl, hb1⟩))
              | (go_at_call 15; ((with_reducible refine (HX.out _ (by assumption)).mono ?_); rintro e w1 ⟨rfl, hb1⟩))
              | (go_at_call 15; ((with_reducible refine (HY.out _ (by assumption)).mono ?_); rintro e w1 ⟨rfl, hb1⟩)))
            go_ret
            exact ⟨by first | rfl | (apply ret_bool; simp; done) | (apply ret_bool; simp; omega), hb1⟩
  | some p =>
    obtain ⟨q, f⟩ := p
    unfold btV
    simp only
    obtain ⟨hq, va, vb, h1, h2, HK0⟩ := min_some hR
    have HK : mayL a2.data.toList = true → compL a0.data.toList a2.data.toList < 0 → compL a2.data.toList a1.data.toList < 0 → f.length < (splitL a2.data.toList).2.length ∨ f.length = (splitL a2.data.toList).2.length ∧ compL (txt q f) a2.data.toList ≤ 0 := HK0 _
    rw [va] at HVa
    rw [vb] at HVb
    have hs7 : (mk (txt q f)).size ≤ 1000000 := by
      rw [mk_size]
      have := may_len (may_txt hq).1
      omega
    have HVt := Lib.hid (valid_c (mk (txt q f)) w HTab.out hs7)
    have HU := Lib.hid (compare_c a0 (mk (txt q f)) w HTab.out (by omega) hs7)
    have HU2 := Lib.hid (compare_c (mk (txt q f)) a1 w HTab.out hs7 (by omega))
    have HZ := Lib.hid (compare_c (mk (txt q f)) a2 w HTab.out hs7 (by omega))
    have HSt := Lib.hid (split_c (mk (txt q f)) w HTab.out hs7)
    rw [mk_list, (may_txt hq).1] at HVt
    rw [mk_list, h1] at HU
    rw [mk_list, h2] at HU2
    rw [mk_list] at HZ
    rw [mk_list, (may_txt hq).2] at HSt
    simp only at HSt
    have z1 : (mk f).size = f.length := mk_size f
    have z2 : (mk (splitL a2.data.toList).2).size = (splitL a2.data.toList).2.length := mk_size _
    rw [← z1, ← z2] at HK
    obtain ⟨x, hx⟩ : ∃ x, x = compL a0.data.toList a2.data.toList := ⟨_, rfl⟩
    obtain ⟨y, hy⟩ : ∃ y, y = compL a2.data.toList a1.data.toList := ⟨_, rfl⟩
    obtain ⟨z, hz⟩ : ∃ z, z = compL (txt q f) a2.data.toList := ⟨_, rfl⟩
    obtain ⟨vo, hvo⟩ : ∃ vo, vo = mayL a2.data.toList := ⟨_, rfl⟩
    obtain ⟨k, hk⟩ : ∃ k, k = (splitL a2.data.toList).1 := ⟨_, rfl⟩
    obtain ⟨C, hC⟩ : ∃ C, C = mk f := ⟨_, rfl⟩
    obtain ⟨D, hD⟩ : ∃ D, D = mk (splitL a2.data.toList).2 := ⟨_, rfl⟩
    obtain ⟨T, hTT⟩ : ∃ T, T = mk (txt q f) := ⟨_, rfl⟩
    rw [← hx] at HX HK
    rw [← hy] at HY HK
    rw [← hz] at HZ HK
    rw [← hvo] at HVo HK
    rw [← hTT] at HVt HU HU2 HZ HSt ⊢
    rw [← hC] at HSt HK
    rw [← hk, ← hD] at HSo
    rw [← hD] at HK
    clear hR HTab hq va vb h1 h2 HK0 hs7 z1 z2 hx hy hz hvo hk hC hD hTT
    cases vo with
    | false =>
      clear HK
      go_wp2_with (first
        | (go_at_call 13; ((with_reducible refine (HVa.out _ (by assumption)).mono ?_); rintro e w1 ⟨rfl, hb1⟩))
        | (go_at_call 13; ((with_reducible refine (HVb.out _ (by assumption)).mono ?_); rintro e w1 ⟨rfl, hb1⟩))
        | (go_at_call 13; ((with_reducible refine (HVo.out _ (by assumption)).mono ?_); rintro e w1 ⟨rfl, hb1⟩))
        | (go_at_call 15; ((with_reducible refine (HX.out _ (by assumption)).mono ?_); rintro e w1 ⟨rfl, hb1⟩))
        | (go_at_call 15; ((with_reducible refine (HY.out _ (by assumption)).mono ?_); rintro e w1 ⟨rfl, hb1⟩))
        | (go_at_call 13; ((with_reducible refine (HVt.out _ (by assumption)).mono ?_); rintro e w1 ⟨rfl, hb1⟩))
        | (go_at_call 15; ((with_reducible refine (HU.out _ (by assumption)).mono ?_); rintro e w1 ⟨rfl, hb1⟩))
        | (go_at_call 15; ((with_reducible refine (HU2.out _ (by assumption)).mono ?_); rintro e w1 ⟨rfl, hb1⟩))
        | (go_at_call 11; ((with_reducible refine (HSt.out _ (by assumption)).mono ?_); rintro e w1 ⟨rfl, hb1⟩))
        | (go_at_call 11; ((with_reducible refine (HSo.out _ (by assumption)).mono ?_); rintro e w1 ⟨rfl, hb1⟩))
        | (go_at_call 15; ((with_reducible refine (HZ.out _ (by assumption)).mono ?_); rintro e w1 ⟨rfl, hb1⟩)))
      go_ret
      exact ⟨by first | rfl | (apply ret_bool; simp; done) | (apply ret_bool; simp; omega), hb1⟩
    | true =>
      by_cases c3 : x < 0
      · by_cases c4 : y < 0
        · rcases HK rfl c3 c4 with g | ⟨g1, g2⟩
          · clear HK
            go_wp2_with (first
              | (go_at_call 13; ((with_reducible refine (HVa.out _ (by assumption)).mono ?_); rintro e w1 ⟨rfl, hb1⟩))
              | (go_at_call 13; ((with_reducible refine (HVb.out _ (by assumption)).mono ?_); rintro e w1 ⟨rfl, hb1⟩))
              | (go_at_call 13; ((with_reducible refine (HVo.out _ (by assumption)).mono ?_); rintro e w1 ⟨rfl, hb1⟩))
              | (go_at_call 15; ((with_reducible refine (HX.out _ (by assumption)).mono ?_); rintro e w1 ⟨rfl, hb1⟩))
              | (go_at_call 15; ((with_reducible refine (HY.out _ (by assumption)).mono ?_); rintro e w1 ⟨rfl, hb1⟩))
              | (go_at_call 13; ((with_reducible refine (HVt.out _ (by assumption)).mono ?_); rintro e w1 ⟨rfl, hb1⟩))
              | (go_at_call 15; ((with_reducible refine (HU.out _ (by assumption)).mono ?_); rintro e w1 ⟨rfl, hb1⟩))
              | (go_at_call 15; ((with_reducible refine (HU2.out _ (by assumption)).mono ?_); rintro e w1 ⟨rfl, hb1⟩))
              | (go_at_call 11; ((with_reducible refine (HSt.out _ (by assumption)).mono ?_); rintro e w1 ⟨rfl, hb1⟩))
              | (go_at_call 11; ((with_reducible refine (HSo.out _ (by assumption)).mono ?_); rintro e w1 ⟨rfl, hb1⟩))
              | (go_at_call 15; ((with_reducible refine (HZ.out _ (by assumption)).mono ?_); rintro e w1 ⟨rfl, hb1⟩)))
            go_ret
            exact ⟨by first | rfl | (apply ret_bool; simp; done) | (apply ret_bool; simp; omega), hb1⟩
          · clear HK
            go_wp2_with (first
              | (go_at_call 13; ((with_reducible refine (HVa.out _ (by assumption)).mono ?_); rintro e w1 ⟨rfl, hb1⟩))
              | (go_at_call 13; ((with_reducible refine (HVb.out _ (by assumption)).mono ?_); rintro e w1 ⟨rfl, hb1⟩))
              | (go_at_call 13; ((with_reducible refine (HVo.out _ (by assumption)).mono ?_); rintro e w1 ⟨rfl, hb1⟩))
              | (go_at_call 15; ((with_reducible refine (HX.out _ (by assumption)).mono ?_); rintro e w1 ⟨rfl, hb1⟩))
              | (go_at_call 15; ((with_reducible refine (HY.out _ (by assumption)).mono ?_); rintro e w1 ⟨rfl, hb1⟩))
              | (go_at_call 13; ((with_reducible refine (HVt.out _ (by assumption)).mono ?_); rintro e w1 ⟨rfl, hb1⟩))
              | (go_at_call 15; ((with_reducible refine (HU.out _ (by assumption)).mono ?_); rintro e w1 ⟨rfl, hb1⟩))
              | (go_at_call 15; ((with_reducible refine (HU2.out _ (by assumption)).mono ?_); rintro e w1 ⟨rfl, hb1⟩))
              | (go_at_call 11; ((with_reducible refine (HSt.out _ (by assumption)).mono ?_); rintro e w1 ⟨rfl, hb1⟩))
              | (go_at_call 11; ((with_reducible refine (HSo.out _ (by assumption)).mono ?_); rintro e w1 ⟨rfl, hb1⟩))
              | (go_at_call 15; ((with_reducible refine (HZ.out _ (by assumption)).mono ?_); rintro e w1 ⟨rfl, hb1⟩)))
            go_ret
            exact ⟨by first | rfl | (apply ret_bool; simp; done) | (apply ret_bool; simp; omega), hb1⟩
        · clear HK
          go_wp2_with (first
            | (go_at_call 13; ((with_reducible refine (HVa.out _ (by assumption)).mono ?_); rintro e w1 ⟨rfl, hb1⟩))
            | (go_at_call 13; ((with_reducible refine (HVb.out _ (by assumption)).mono ?_); rintro e w1 ⟨rfl, hb1⟩))
            | (go_at_call 13; ((with_reducible refine (HVo.out _ (by assumption)).mono ?_); rintro e w1 ⟨rfl, hb1⟩))
            | (go_at_call 15; ((with_reducible refine (HX.out _ (by assumption)).mono ?_); rintro e w1 ⟨rfl, hb1⟩))
            | (go_at_call 15; ((with_reducible refine (HY.out _ (by assumption)).mono ?_); rintro e w1 ⟨rfl, hb1⟩))
            | (go_at_call 13; ((with_reducible refine (HVt.out _ (by assumption)).mono ?_); rintro e w1 ⟨rfl, hb1⟩))
            | (go_at_call 15; ((with_reducible refine (HU.out _ (by assumption)).mono ?_); rintro e w1 ⟨rfl, hb1⟩))
            | (go_at_call 15; ((with_reducible refine (HU2.out _ (by assumption)).mono ?_); rintro e w1 ⟨rfl, hb1⟩))
            | (go_at_call 11; ((with_reducible refine (HSt.out _ (by assumption)).mono ?_); rintro e w1 ⟨rfl, hb1⟩))
            | (go_at_call 11; ((with_reducible refine (HSo.out _ (by assumption)).mono ?_); rintro e w1 ⟨rfl, hb1⟩))
            | (go_at_call 15; ((with_reducible refine (HZ.out _ (by assumption)).mono ?_); rintro e w1 ⟨rfl, hb1⟩)))
          go_ret
          exact ⟨by first | rfl | (apply ret_bool; simp; done) | (apply ret_bool; simp; omega), hb1⟩
      · clear HK
        go_wp2_with (first
          | (go_at_call 13; ((with_reducible refine (HVa.out _ (by assumption)).mono ?_); rintro e w1 ⟨rfl, hb1⟩))
          | (go_at_call 13; ((with_reducible refine (HVb.out _ (by assumption)).mono ?_); rintro e w1 ⟨rfl, hb1⟩))
          | (go_at_call 13; ((with_reducible refine (HVo.out _ (by assumption)).mono ?_); rintro e w1 ⟨rfl, hb1⟩))
          | (go_at_call 15; ((with_reducible refine (HX.out _ (by assumption)).mono ?_); rintro e w1 ⟨rfl, hb1⟩))
          | (go_at_call 15; ((with_reducible refine (HY.out _ (by assumption)).mono ?_); rintro e w1 ⟨rfl, hb1⟩))
          | (go_at_call 13; ((with_reducible refine (HVt.out _ (by assumption)).mono ?_); rintro e w1 ⟨rfl, hb1⟩))
          | (go_at_call 15; ((with_reducible refine (HU.out _ (by assumption)).mono ?_); rintro e w1 ⟨rfl, hb1⟩))
          | (go_at_call 15; ((with_reducible refine (HU2.out _ (by assumption)).mono ?_); rintro e w1 ⟨rfl, hb1⟩))
          | (go_at_call 11; ((with_reducible refine (HSt.out _ (by assumption)).mono ?_); rintro e w1 ⟨rfl, hb1⟩))
          | (go_at_call 11; ((with_reducible refine (HSo.out _ (by assumption)).mono ?_); rintro e w1 ⟨rfl, hb1⟩))
          | (go_at_call 15; ((with_reducible refine (HZ.out _ (by assumption)).mono ?_); rintro e w1 ⟨rfl, hb1⟩)))
        go_ret
        exact ⟨by first | rfl | (apply ret_bool; simp; done) | (apply ret_bool; simp; omega), hb1⟩
end Go.Proofs.YtbjdfghakhplnaaDoor
