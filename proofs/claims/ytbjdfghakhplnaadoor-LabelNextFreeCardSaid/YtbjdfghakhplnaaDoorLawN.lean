/-
  LabelNext: the law returns true for every two strings.
-/
import Derived.Test.YtbjdfghakhplnaaDoorLawC
namespace Go.Proofs.YtbjdfghakhplnaaDoor
open Go.RowKit (wrap32 wrap64 intOf Hid Below)
open Lab

theorem next_c (s : ByteArray) (w : World) (hT : Tab w) (hs : s.size ≤ 1000000) : ∀ W, Below w.heap.size w W → Calls Tryd.prog 17 #[.string s] W fun e w' => e = .returned (nxV s.data.toList) ∧ Below w.heap.size w w' := fun W h =>
  (next_any s W (hT.below h) hs).mono fun _ _ ⟨he, h2⟩ => ⟨he, h.trans (h2.mono h.size)⟩
theorem refnext_c (s : ByteArray) (w : World) (hs : s.size ≤ 1000000) : ∀ W, Below w.heap.size w W → Calls Tryd.prog 18 #[.string s] W fun e w' => e = .returned (rnV s.data.toList) ∧ Below w.heap.size w w' := fun W h =>
  (refnext_any s W hs).mono fun _ _ ⟨he, h2⟩ => ⟨he, h.trans (h2.mono h.size)⟩
theorem nextl_some {l t : Bs} (h : nextL l = some t) : ∃ n c m d, Ok n c ∧ l = txt n c ∧ splitL l = (n, c) ∧ nextN n c = some (m, d) ∧ t = txt m d ∧ Ok m d ∧ Lt n c m d := by
  unfold nextL at h
  cases hm : mayL l with
  | false => rw [hm] at h; cases h
  | true =>
    rw [hm, if_pos rfl] at h
    have ho := (may_ok hm).1
    have hl := (may_ok hm).2
    cases hn : nextN (splitL l).1 (splitL l).2 with
    | none => rw [hn] at h; cases h
    | some p =>
      rw [hn] at h
      obtain rfl := Option.some.inj h
      have hk := next_ok ho (m := p.1) (d := p.2) hn
      exact ⟨_, _, p.1, p.2, ho, hl, rfl, hn, rfl, hk.1, hk.2.1⟩
theorem txt_ne {m : Nat} {d : Bs} : mk (txt m d) ≠ ⟨#[]⟩ := by
  intro h
  have := congrArg (fun a : ByteArray => a.data.toList) h
  simp only [mk_list] at this
  unfold txt at this
  exact dec_ne m (List.append_eq_nil_iff.1 this).1
theorem txt_full {m : Nat} {d : Bs} : (mk (txt m d)).toList.isEmpty = false := by
  rw [ByteArray.toList_eq, mk_list]
  unfold txt
  cases h : Lib.decDigits m with
  | nil => exact absurd h (dec_ne m)
  | cons x l => rfl
theorem comp_neg {n m : Nat} {c d : Bs} (h1 : Ok n c) (h2 : Ok m d) (h : Lt n c m d) : compL (txt n c) (txt m d) = -1 := by
  rcases comp_tri (txt n c) (txt m d) with e | e | e
  · exact e
  · have := (comp_lt h1 h2).2 h; omega
  · have := (comp_lt h1 h2).2 h; omega

set_option maxHeartbeats 4000000 in
theorem lawNext {a0 a1 : ByteArray} {w : World} (hT : Tab w) :
    Calls Tryd.prog 5 #[.string a0, .string a1] w fun e w' => e = .returned (.bool true) ∧ Below w.heap.size w w' := by
  have HA := Lib.hid (awake_c w hT)
  have hb0 := Below.refl w.heap.size w
  by_cases c0 : a0.size > 100
  · clear hT
    go_enter Tryd.func5, Tryd.ntmps5
    go_wp2_with (first
      | (go_at_call 10; ((with_reducible refine (HA.out _ (by assumption)).mono ?_); rintro e w1 ⟨rfl, hb1⟩)))
    go_ret
    exact ⟨by first | rfl | (apply ret_bool; simp), hb1⟩
  by_cases c1 : a1.size > 100
  · clear hT
    go_enter Tryd.func5, Tryd.ntmps5
    go_wp2_with (first
      | (go_at_call 10; ((with_reducible refine (HA.out _ (by assumption)).mono ?_); rintro e w1 ⟨rfl, hb1⟩)))
    go_ret
    exact ⟨by first | rfl | (apply ret_bool; simp), hb1⟩
  have HN := Lib.hid (next_c a0 w hT (by omega))
  have HR := Lib.hid (refnext_c a0 w (by omega))
  have HV1 := Lib.hid (valid_c a1 w hT (by omega))
  have hE0 := str_eq ⟨#[]⟩ ⟨#[]⟩
  rw [decide_eq_true rfl] at hE0
  cases hx : nextL a0.data.toList with
  | none =>
    have e1 : nxV a0.data.toList = .tuple #[.string ⟨#[]⟩, .bool false] := by unfold nxV; rw [hx]
    have e2 : rnV a0.data.toList = .string ⟨#[]⟩ := by unfold rnV; rw [hx]
    rw [e1] at HN
    rw [e2] at HR
    clear e1 e2 hx hT
    go_enter Tryd.func5, Tryd.ntmps5
    go_wp2_with (first
      | (go_at_call 10; ((with_reducible refine (HA.out _ (by assumption)).mono ?_); rintro e w1 ⟨rfl, hb1⟩))
      | (go_at_call 17; ((with_reducible refine (HN.out _ (by assumption)).mono ?_); rintro e w1 ⟨rfl, hb1⟩))
      | (go_at_call 18; ((with_reducible refine (HR.out _ (by assumption)).mono ?_); rintro e w1 ⟨rfl, hb1⟩)))
    go_ret
    exact ⟨by first | rfl | (apply ret_bool; simp), hb1⟩
  | some t =>
    have e1 : nxV a0.data.toList = .tuple #[.string (mk t), .bool true] := by unfold nxV; rw [hx]
    have e2 : rnV a0.data.toList = .string (mk t) := by unfold rnV; rw [hx]
    rw [e1] at HN
    rw [e2] at HR
    obtain ⟨n, c, m, d, o1, hl, hsp, hn, rfl, o2, hlt⟩ := nextl_some hx
    have hs7 : (mk (txt m d)).size ≤ 1000000 := by
      rw [mk_size]
      have := may_len (may_txt o2).1
      omega
    have hne := txt_ne (m := m) (d := d)
    have HV2 := Lib.hid (valid_c (mk (txt m d)) w hT hs7)
    have HC3 := Lib.hid (compare_c a0 (mk (txt m d)) w hT (by omega) hs7)
    have HC2 := Lib.hid (compare_c a1 (mk (txt m d)) w hT (by omega) hs7)
    have HC1 := Lib.hid (compare_c a0 a1 w hT (by omega) (by omega))
    have HS1 := Lib.hid (split_c a0 w hT (by omega))
    have HS2 := Lib.hid (split_c a1 w hT (by omega))
    rw [mk_list, (may_txt o2).1] at HV2
    rw [mk_list] at HC3 HC2
    rw [hl, comp_neg o1 o2 hlt] at HC3
    rw [hsp] at HS1
    simp only at HS1
    have HK : ∀ h1 : mayL a1.data.toList = true, compL a0.data.toList a1.data.toList < 0 → compL a1.data.toList (txt m d) < 0 → c.length < (splitL a1.data.toList).2.length := by
      intro h1 h2 h3
      have o3 := (may_ok h1).1
      rw [hl, (may_ok h1).2, comp_lt o1 o3] at h2
      rw [(may_ok h1).2, comp_lt o3 o2] at h3
      exact next_between o1 hn o3 h2 h3
    have z1 : (mk c).size = c.length := mk_size c
    have z2 : (mk (splitL a1.data.toList).2).size = (splitL a1.data.toList).2.length := mk_size _
    have hT1 := str_eq (mk (txt m d)) (mk (txt m d))
    rw [decide_eq_true rfl] at hT1
    have hT2 := str_eq (mk (txt m d)) ⟨#[]⟩
    rw [decide_eq_false hne] at hT2
    have hT3 : (mk (txt m d)).toList.isEmpty = false := txt_full
    obtain ⟨v, hv⟩ : ∃ v, v = mayL a1.data.toList := ⟨_, rfl⟩
    obtain ⟨x, hxx⟩ : ∃ x, x = compL a0.data.toList a1.data.toList := ⟨_, rfl⟩
    obtain ⟨y, hy⟩ : ∃ y, y = compL a1.data.toList (txt m d) := ⟨_, rfl⟩
    obtain ⟨k, hk⟩ : ∃ k, k = (splitL a1.data.toList).1 := ⟨_, rfl⟩
    obtain ⟨C, hC⟩ : ∃ C, C = mk c := ⟨_, rfl⟩
    obtain ⟨D, hD⟩ : ∃ D, D = mk (splitL a1.data.toList).2 := ⟨_, rfl⟩
    obtain ⟨T, hTT⟩ : ∃ T, T = mk (txt m d) := ⟨_, rfl⟩
    rw [← hv] at HV1 HK
    rw [← hxx] at HC1 HK
    rw [← hTT] at HN HR HV2 HC2 HC3 hT1 hT2 hT3
    rw [← hy] at HC2 HK
    rw [← hC] at HS1 z1
    rw [← hk, ← hD] at HS2
    rw [← hD] at z2
    rw [← z1, ← z2] at HK
    clear hT hx e1 e2 hl hsp hn hlt hs7 hne hv hxx hy hk hC hD hTT o1 o2 z1 z2
    cases v with
    | false =>
      clear HK
      go_enter Tryd.func5, Tryd.ntmps5
      go_wp2_with (first
        | (go_at_call 10; ((with_reducible refine (HA.out _ (by assumption)).mono ?_); rintro e w1 ⟨rfl, hb1⟩))
        | (go_at_call 17; ((with_reducible refine (HN.out _ (by assumption)).mono ?_); rintro e w1 ⟨rfl, hb1⟩))
        | (go_at_call 18; ((with_reducible refine (HR.out _ (by assumption)).mono ?_); rintro e w1 ⟨rfl, hb1⟩))
        | (go_at_call 13; ((with_reducible refine (HV1.out _ (by assumption)).mono ?_); rintro e w1 ⟨rfl, hb1⟩))
        | (go_at_call 13; ((with_reducible refine (HV2.out _ (by assumption)).mono ?_); rintro e w1 ⟨rfl, hb1⟩))
        | (go_at_call 15; ((with_reducible refine (HC3.out _ (by assumption)).mono ?_); rintro e w1 ⟨rfl, hb1⟩)))
      go_ret
      exact ⟨by first | rfl | (apply ret_bool; simp), hb1⟩
    | true =>
      by_cases c2 : x < 0
      · by_cases c3 : y < 0
        · have hlen := HK rfl c2 c3
          clear HK
          go_enter Tryd.func5, Tryd.ntmps5
          go_wp2_with (first
            | (go_at_call 10; ((with_reducible refine (HA.out _ (by assumption)).mono ?_); rintro e w1 ⟨rfl, hb1⟩))
            | (go_at_call 17; ((with_reducible refine (HN.out _ (by assumption)).mono ?_); rintro e w1 ⟨rfl, hb1⟩))
            | (go_at_call 18; ((with_reducible refine (HR.out _ (by assumption)).mono ?_); rintro e w1 ⟨rfl, hb1⟩))
            | (go_at_call 13; ((with_reducible refine (HV1.out _ (by assumption)).mono ?_); rintro e w1 ⟨rfl, hb1⟩))
            | (go_at_call 13; ((with_reducible refine (HV2.out _ (by assumption)).mono ?_); rintro e w1 ⟨rfl, hb1⟩))
            | (go_at_call 15; ((with_reducible refine (HC1.out _ (by assumption)).mono ?_); rintro e w1 ⟨rfl, hb1⟩))
            | (go_at_call 15; ((with_reducible refine (HC2.out _ (by assumption)).mono ?_); rintro e w1 ⟨rfl, hb1⟩))
            | (go_at_call 15; ((with_reducible refine (HC3.out _ (by assumption)).mono ?_); rintro e w1 ⟨rfl, hb1⟩))
            | (go_at_call 11; ((with_reducible refine (HS1.out _ (by assumption)).mono ?_); rintro e w1 ⟨rfl, hb1⟩))
            | (go_at_call 11; ((with_reducible refine (HS2.out _ (by assumption)).mono ?_); rintro e w1 ⟨rfl, hb1⟩)))
          go_ret
          exact ⟨by first | rfl | (apply ret_bool; simp), hb1⟩
        · clear HK
          go_enter Tryd.func5, Tryd.ntmps5
          go_wp2_with (first
            | (go_at_call 10; ((with_reducible refine (HA.out _ (by assumption)).mono ?_); rintro e w1 ⟨rfl, hb1⟩))
            | (go_at_call 17; ((with_reducible refine (HN.out _ (by assumption)).mono ?_); rintro e w1 ⟨rfl, hb1⟩))
            | (go_at_call 18; ((with_reducible refine (HR.out _ (by assumption)).mono ?_); rintro e w1 ⟨rfl, hb1⟩))
            | (go_at_call 13; ((with_reducible refine (HV1.out _ (by assumption)).mono ?_); rintro e w1 ⟨rfl, hb1⟩))
            | (go_at_call 13; ((with_reducible refine (HV2.out _ (by assumption)).mono ?_); rintro e w1 ⟨rfl, hb1⟩))
            | (go_at_call 15; ((with_reducible refine (HC1.out _ (by assumption)).mono ?_); rintro e w1 ⟨rfl, hb1⟩))
            | (go_at_call 15; ((with_reducible refine (HC2.out _ (by assumption)).mono ?_); rintro e w1 ⟨rfl, hb1⟩))
            | (go_at_call 15; ((with_reducible refine (HC3.out _ (by assumption)).mono ?_); rintro e w1 ⟨rfl, hb1⟩))
            | (go_at_call 11; ((with_reducible refine (HS1.out _ (by assumption)).mono ?_); rintro e w1 ⟨rfl, hb1⟩))
            | (go_at_call 11; ((with_reducible refine (HS2.out _ (by assumption)).mono ?_); rintro e w1 ⟨rfl, hb1⟩)))
          go_ret
          exact ⟨by first | rfl | (apply ret_bool; simp), hb1⟩
      · clear HK
        go_enter Tryd.func5, Tryd.ntmps5
        go_wp2_with (first
          | (go_at_call 10; ((with_reducible refine (HA.out _ (by assumption)).mono ?_); rintro e w1 ⟨rfl, hb1⟩))
          | (go_at_call 17; ((with_reducible refine (HN.out _ (by assumption)).mono ?_); rintro e w1 ⟨rfl, hb1⟩))
          | (go_at_call 18; ((with_reducible refine (HR.out _ (by assumption)).mono ?_); rintro e w1 ⟨rfl, hb1⟩))
          | (go_at_call 13; ((with_reducible refine (HV1.out _ (by assumption)).mono ?_); rintro e w1 ⟨rfl, hb1⟩))
          | (go_at_call 13; ((with_reducible refine (HV2.out _ (by assumption)).mono ?_); rintro e w1 ⟨rfl, hb1⟩))
          | (go_at_call 15; ((with_reducible refine (HC1.out _ (by assumption)).mono ?_); rintro e w1 ⟨rfl, hb1⟩))
          | (go_at_call 15; ((with_reducible refine (HC2.out _ (by assumption)).mono ?_); rintro e w1 ⟨rfl, hb1⟩))
          | (go_at_call 15; ((with_reducible refine (HC3.out _ (by assumption)).mono ?_); rintro e w1 ⟨rfl, hb1⟩))
          | (go_at_call 11; ((with_reducible refine (HS1.out _ (by assumption)).mono ?_); rintro e w1 ⟨rfl, hb1⟩))
          | (go_at_call 11; ((with_reducible refine (HS2.out _ (by assumption)).mono ?_); rintro e w1 ⟨rfl, hb1⟩)))
        go_ret
        exact ⟨by first | rfl | (apply ret_bool; simp), hb1⟩
end Go.Proofs.YtbjdfghakhplnaaDoor
