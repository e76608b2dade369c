/-
  The contracts of the reference's Split, of parseNumber, Split and Valid.
-/
import Derived.Test.YtbjdfghakhplnaaDoorWa
namespace Go.Proofs.YtbjdfghakhplnaaDoor
open Go.RowKit (wrap32 wrap64 intOf Hid Below)
open Lab

theorem ext_drop (s : ByteArray) (k : Nat) : (s.extract k s.size).data.toList = s.data.toList.drop k := by
  rw [Lib.extract_data, List.take_of_length_le (by rw [List.length_drop, size_list]; omega)]
theorem ext_take (s : ByteArray) (k : Nat) : (s.extract 0 k).data.toList = s.data.toList.take k := by
  rw [Lib.extract_data]; simp
/-- What Split hands back of a text. -/
def spV (l : Bs) : Value := .tuple #[.int .i64 ((splitL l).1 : Nat), .string (mk (splitL l).2)]

set_option maxHeartbeats 1000000 in
theorem refsplit_any (s : ByteArray) (w : World) (hs : s.size ≤ 1000000) :
    Calls Tryd.prog 12 #[.string s] w fun e w' => e = .returned (spV s.data.toList) ∧ ∃ q, w' = w.drewN q := by
  have HM := Lib.hid (may_any s w hs)
  cases hm : mayL s.data.toList with
  | false =>
    rw [hm] at HM
    have HS : Hid (spV s.data.toList = .tuple #[.int .i64 0, .string ⟨#[]⟩]) := Lib.hid (by unfold spV; rw [split_no hm]; rfl)
    clear hm
    go_enter Tryd.func12, Tryd.ntmps12
    go_wp2_with (go_at_call 14; ((with_reducible refine (HM.out).mono ?_); rintro e w' ⟨rfl, rfl⟩))
    go_ret2
    exact ⟨by rw [HS.out]; rfl, 0, rfl⟩
  | true =>
    rw [hm] at HM
    have HDg := Lib.hid (digits_any s w hs)
    obtain ⟨n, hn⟩ : ∃ n, n = (s.data.toList.takeWhile isDig).length := ⟨_, rfl⟩
    rw [← hn] at HDg
    have hle : n ≤ s.size := by rw [hn, ← size_list]; exact tw_le _
    have htake : s.data.toList.takeWhile isDig = s.data.toList.take n := by rw [hn]; exact tw_take _
    have hn4 : n ≤ 4 := by
      have h := hm
      unfold mayL at h
      rw [decide_eq_true_eq] at h
      omega
    have HS : Hid (spV s.data.toList = .tuple #[.int .i64 (val (s.data.toList.take n) : Nat), .string (s.extract n s.size)]) := Lib.hid (by
      unfold spV splitL
      rw [if_pos hm, htake, dw_drop, ← hn]
      rw [← eq_mk (ext_drop s n)])
    have HDi : Hid (∀ c ∈ s.data.toList.take n, isDig c = true) := Lib.hid (by rw [← htake]; exact take_all_dig _)
    clear hm hn htake
    go_enter Tryd.func12, Tryd.ntmps12
    go_wp2_with (first
      | (go_at_call 14; ((with_reducible refine (HM.out).mono ?_); rintro e w' ⟨rfl, rfl⟩))
      | (go_at_call 31; ((with_reducible refine (HDg.out).mono ?_); rintro e w' ⟨rfl, rfl⟩)))
    go_loop [4, 6] (fun v i => ∃ k : Nat, k ≤ n ∧ i = .int .i64 k ∧ v = .int .i64 (val (s.data.toList.take k) : Nat)) (fun _ i => n - (intOf i).toNat)
    case atStart => exact ⟨0, Nat.zero_le _, rfl, rfl⟩
    case round =>
      obtain ⟨k, hk, rfl, rfl⟩ := hrel
      have hv := val_lt4 (s.data.toList.take k) (fun c hc => HDi.out c (by
        have : s.data.toList.take k = (s.data.toList.take n).take k := by rw [List.take_take, Nat.min_eq_left hk]
        rw [this] at hc
        exact List.mem_of_mem_take hc)) (by rw [List.length_take]; omega)
      by_cases hlt : k < n
      · have hks : k < s.size := by omega
        have HV := Lib.hid (val_snoc (s.data.toList.take k) s[k])
        have HT := Lib.hid (take_snoc s k hks)
        have hd : 48 ≤ (s[k].toNat : Int) ∧ (s[k].toNat : Int) ≤ 57 := by
          have h1 := HDi.out s[k] (by
            have := HT.out
            have h2 : s.data.toList.take (k + 1) = (s.data.toList.take n).take (k + 1) := by rw [List.take_take, Nat.min_eq_left (by omega)]
            rw [h2] at this
            exact List.mem_of_mem_take (i := k + 1) (by rw [this]; simp))
          unfold isDig at h1
          rw [decide_eq_true_eq] at h1
          omega
        obtain ⟨hd1, hd2⟩ := hd
        go_wp2
        go_round
        case rel => exact ⟨k + 1, by omega, by go_num, by rw [HT.out, HV.out]; congr 1; push_cast; omega⟩
        case measure => simp [intOf]; omega
      · obtain rfl : k = n := by omega
        go_wp2
        go_quiet (fail)
        go_wp2
        go_ret2
        exact ⟨by rw [HS.out]; rfl, _, rfl⟩

/-- What parseNumber hands back of a text. -/
def pnV (l : Bs) : Value := if parseP l then .tuple #[.int .i64 (val l : Nat), .bool true] else .tuple #[.int .i64 0, .bool false]
theorem pn_no {l : Bs} (h : l = [] ∨ 4 < l.length ∨ l.head? = some 48 ∨ ∃ k, k < l.length ∧ isDig (l.getD k 0) = false) : pnV l = .tuple #[.int .i64 0, .bool false] := by
  have hp : parseP l = false := by
    unfold parseP
    rw [decide_eq_false_iff_not]
    rintro ⟨h1, h2, h3, h4⟩
    rcases h with h | h | h | ⟨k, hk, h⟩
    · exact h1 h
    · omega
    · exact h3 h
    · rw [h4 _ (getD_mem hk)] at h; cases h
  unfold pnV
  rw [hp]; rfl
set_option maxHeartbeats 2000000 in
theorem parse_any (s : ByteArray) (w : World) (hs : s.size ≤ 1000000) :
    Calls Tryd.prog 30 #[.string s] w fun e w' => e = .returned (pnV s.data.toList) ∧ w = w' := by
  have HSz := Lib.hid (size_list s)
  have HNo := Lib.hid (pn_no (l := s.data.toList))
  by_cases h0 : s.size = 0
  · have hnil : s.toList = [] := by
      rw [ByteArray.toList_eq]
      exact List.eq_nil_of_length_eq_zero (by rw [size_list]; exact h0)
    have hnil2 : s.toList.isEmpty = true := by rw [hnil]; rfl
    have HP := Lib.hid (HNo.out (Or.inl (List.eq_nil_of_length_eq_zero (by rw [HSz.out]; exact h0))))
    clear h0
    go_enter Tryd.func30, Tryd.ntmps30
    go_wp2
    go_ret2
    exact ⟨by rw [HP.out]; rfl, rfl⟩
  · have hne : s.toList.isEmpty = false := by
      rw [ByteArray.toList_eq]
      cases hd : s.data.toList with
      | nil => exact absurd (by rw [← size_list, hd]; rfl) h0
      | cons x r => rfl
    have hpos : 0 < s.size := by omega
    by_cases h4 : 4 < s.size
    · have HP := Lib.hid (HNo.out (Or.inr (Or.inl (by rw [HSz.out]; exact h4))))
      go_enter Tryd.func30, Tryd.ntmps30
      go_wp2
      go_ret2
      exact ⟨by rw [HP.out]; rfl, rfl⟩
    · have HH := Lib.hid (head_at s hpos)
      by_cases c3 : s[0] = 48
      · have HP := Lib.hid (HNo.out (Or.inr (Or.inr (Or.inl (by rw [HH.out, c3])))))
        have e3 : ((s[0].toNat : Int) == 48) = true := by rw [c3]; decide
        clear c3
        go_enter Tryd.func30, Tryd.ntmps30
        go_wp2
        go_ret2
        exact ⟨by rw [HP.out]; rfl, rfl⟩
      · have e3 : ((s[0].toNat : Int) == 48) = false := by
          rw [beq_eq_false_iff_ne]
          intro hh
          apply c3
          apply UInt8.toNat_inj.1
          have : (48 : UInt8).toNat = 48 := rfl
          omega
        have H3 : Hid (s.data.toList.head? ≠ some 48) := Lib.hid (by rw [HH.out]; intro hh; exact c3 (Option.some.inj hh))
        clear c3
        go_enter Tryd.func30, Tryd.ntmps30
        go_wp2
        go_loop [4, 20] (fun v i => ∃ k : Nat, k ≤ s.size ∧ i = .int .i64 k ∧ v = .int .i64 (val (s.data.toList.take k) : Nat) ∧ ∀ c ∈ s.data.toList.take k, isDig c = true) (fun _ i => s.size - (intOf i).toNat)
        case atStart => exact ⟨0, Nat.zero_le _, rfl, rfl, by intro c hc; simp at hc⟩
        case round =>
          obtain ⟨k, hk, rfl, rfl, had⟩ := hrel
          have hv := val_lt4 (s.data.toList.take k) had (by rw [List.length_take]; omega)
          have HD := Lib.hid had
          clear had
          by_cases hlt : k < s.size
          · have HG := Lib.hid (getD_at s k hlt)
            by_cases c1 : 48 ≤ (s[k].toNat : Int)
            · by_cases c2 : (s[k].toNat : Int) ≤ 57
              · have HT := Lib.hid (take_snoc s k hlt)
                have HV := Lib.hid (val_snoc (s.data.toList.take k) s[k])
                have HGG : Hid (isDig s[k] = true) := Lib.hid (by unfold isDig; rw [decide_eq_true_eq]; omega)
                go_wp2
                go_round
                case rel => exact ⟨k + 1, by omega, by go_num, by rw [HT.out, HV.out]; congr 1; push_cast; omega, by
                  rw [HT.out]
                  intro c hc
                  rcases List.mem_append.1 hc with h | h
                  · exact HD.out c h
                  · rw [List.mem_singleton.1 h]; exact HGG.out⟩
                case measure => simp [intOf]; omega
              · have HP := Lib.hid (HNo.out (Or.inr (Or.inr (Or.inr ⟨k, by rw [HSz.out]; exact hlt, by rw [HG.out]; unfold isDig; rw [decide_eq_false_iff_not]; omega⟩))))
                go_wp2
                go_ret2
                exact ⟨by rw [HP.out]; rfl, rfl⟩
            · have HP := Lib.hid (HNo.out (Or.inr (Or.inr (Or.inr ⟨k, by rw [HSz.out]; exact hlt, by rw [HG.out]; unfold isDig; rw [decide_eq_false_iff_not]; omega⟩))))
              go_wp2
              go_ret2
              exact ⟨by rw [HP.out]; rfl, rfl⟩
          · obtain rfl : k = s.size := by omega
            have HP : Hid (pnV s.data.toList = .tuple #[.int .i64 (val (s.data.toList.take s.size) : Nat), .bool true]) := Lib.hid (by
              have ht : s.data.toList.take s.size = s.data.toList := List.take_of_length_le (by rw [HSz.out]; omega)
              have hd := HD.out
              rw [ht] at hd
              have hp : parseP s.data.toList = true := by
                unfold parseP
                rw [decide_eq_true_eq]
                refine ⟨?_, by rw [HSz.out]; omega, H3.out, hd⟩
                intro hh
                have := HSz.out
                rw [hh] at this
                simp at this
                omega
              unfold pnV
              rw [hp, ht]; rfl)
            go_wp2
            go_ret2
            exact ⟨by rw [HP.out]; rfl, rfl⟩
end Go.Proofs.YtbjdfghakhplnaaDoor
