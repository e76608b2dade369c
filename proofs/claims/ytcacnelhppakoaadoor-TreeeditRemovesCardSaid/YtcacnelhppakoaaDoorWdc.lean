/-
  Words: unmarked; equality of rows.
-/
import Derived.Test.YtcacnelhppakoaaDoorWdb
namespace Go.Proofs.YtcacnelhppakoaaDoor
open Go.RowKit (wrap32 wrap64 intOf Hid Below)
open Lab Lcs

theorem trip_part {x y z a b c : Int} (h : ¬ (⟨x, y, z⟩ : Trip) = ⟨a, b, c⟩) : (¬ x = a) ∨ (x = a ∧ ¬ y = b) ∨ (x = a ∧ y = b ∧ ¬ z = c) := by
  by_cases h1 : x = a
  · by_cases h2 : y = b
    · by_cases h3 : z = c
      · exact absurd (by rw [h1, h2, h3]) h
      · exact Or.inr (Or.inr ⟨h1, h2, h3⟩)
    · exact Or.inr (Or.inl ⟨h1, h2⟩)
  · exact Or.inl h1
theorem word_part {s t : Str} {x y z a b c : Int} (h : ¬ (⟨s, ⟨x, y, z⟩⟩ : Wd) = ⟨t, ⟨a, b, c⟩⟩) : (¬ s = t) ∨ (s = t ∧ ¬ x = a) ∨ (s = t ∧ x = a ∧ ¬ y = b) ∨ (s = t ∧ x = a ∧ y = b ∧ ¬ z = c) := by
  by_cases h0 : s = t
  · right
    have h' : ¬ (⟨x, y, z⟩ : Trip) = ⟨a, b, c⟩ := fun e => h (by rw [h0, e])
    rcases trip_part h' with h1 | ⟨h1, h2⟩ | ⟨h1, h2, h3⟩
    · exact Or.inl ⟨h0, h1⟩
    · exact Or.inr (Or.inl ⟨h0, h1, h2⟩)
    · exact Or.inr (Or.inr ⟨h0, h1, h2, h3⟩)
  · exact Or.inl h0
set_option maxHeartbeats 4000000 in
set_option maxRecDepth 100000 in
theorem marked_any (a : Wd) (w : World) :
    Calls Tryd.prog 126 #[.agg #[.string a.text, .int .i64 a.mark.x, .int .i64 a.mark.y, .int .i64 a.mark.z]] w fun e w' => e = .returned (.bool (!decide (a.mark = .zero))) ∧ Below w.heap.size w w' := by
  obtain ⟨s, ⟨x, y, z⟩⟩ := a
  have hb0 := alloc_below w (.cells #[.string s, .int .i64 x, .int .i64 y, .int .i64 z] 49)
  by_cases hz : (⟨x, y, z⟩ : Trip) = .zero
  · have HE : Hid (decide ((⟨x, y, z⟩ : Trip) = .zero) = true) := Lib.hid (decide_eq_true hz)
    unfold Trip.zero at hz
    obtain ⟨rfl, rfl, rfl⟩ : x = 0 ∧ y = 0 ∧ z = 0 := by simpa using hz
    clear hz
    go_enter Tryd.func126, Tryd.ntmps126
    go_wp2
    go_ret
    exact ⟨rfl, hb0⟩
  · have HE : Hid (decide ((⟨x, y, z⟩ : Trip) = .zero) = false) := Lib.hid (decide_eq_false hz)
    have HB := Lib.hid hb0
    clear hb0
    rcases trip_part hz with h | ⟨rfl, h⟩ | ⟨rfl, rfl, h⟩
    all_goals
      clear hz
      go_enter Tryd.func126, Tryd.ntmps126
      go_wp2
      go_ret
      exact ⟨ret_bool (by rw [HE.out]; rfl), HB.out⟩
theorem take_eq {α : Type} {L M : List α} {k : Nat} {a : α} (h : L.take k = M.take k) (h1 : L[k]? = some a) (h2 : M[k]? = some a) : L.take (k + 1) = M.take (k + 1) := by
  obtain ⟨g1, e1⟩ := List.getElem?_eq_some_iff.1 h1
  obtain ⟨g2, e2⟩ := List.getElem?_eq_some_iff.1 h2
  rw [List.take_succ_eq_append_getElem g1, List.take_succ_eq_append_getElem g2, h, e1, e2]
theorem ne_at {α : Type} {L M : List α} {k : Nat} {a b : α} (hne : ¬ a = b) (h1 : L[k]? = some a) (h2 : M[k]? = some b) : ¬ L = M := by
  rintro rfl
  rw [h1] at h2
  exact hne (Option.some.inj h2)
set_option maxHeartbeats 4000000 in
set_option maxRecDepth 100000 in
theorem weq_any (L M : List Wd) (n c m d : Nat) (A B : Option Addr) (w : World) (hl : Wds w A n c L) (hm : Wds w B m d M) :
    Calls Tryd.prog 91 #[.slice A n c, .slice B m d] w fun e w' => e = .returned (.bool (decide (L = M))) ∧ ∃ q, w' = w.drewN q := by
  have HL := Lib.hid hl
  have HM := Lib.hid hm
  have HLn := Lib.hid hl.1
  have HMn := Lib.hid hm.1
  have hnc := hl.2.1
  have hc := hl.2.2.1
  have hmd := hm.2.1
  have hd := hm.2.2.1
  clear hl hm
  by_cases hnm : n = m
  · subst hnm
    go_enter Tryd.func91, Tryd.ntmps91
    go_wp2
    go_loopw [13] (fun i wr => ∃ k : Nat, k ≤ n ∧ i = .int .i64 k ∧ L.take k = M.take k ∧ ∃ q, wr = w.drewN q) (fun i _ => n - (intOf i).toNat)
    case atStart => exact ⟨0, Nat.zero_le _, rfl, rfl, 0, rfl⟩
    case round =>
      obtain ⟨k, hk, rfl, hal, q, rfl⟩ := hrel
      have HAl := Lib.hid hal
      clear hal
      by_cases hlt : k < n
      · obtain ⟨b, off, ⟨s, ⟨x, y, z⟩⟩, rfl, hblt, ha, c0, c1, c2, c3⟩ := HL.out.at_ (Below.refl _ _) hlt
        obtain ⟨b2, off2, ⟨s2, ⟨x2, y2, z2⟩⟩, rfl, hblt2, ha2, d0, d1, d2, d3⟩ := HM.out.at_ (Below.refl _ _) hlt
        have HA := Lib.hid ha
        have HA2 := Lib.hid ha2
        clear ha ha2
        by_cases he : (⟨s, ⟨x, y, z⟩⟩ : Wd) = ⟨s2, ⟨x2, y2, z2⟩⟩
        · obtain ⟨rfl, rfl, rfl, rfl⟩ : s = s2 ∧ x = x2 ∧ y = y2 ∧ z = z2 := by simpa using he
          have HE := Lib.hid (take_eq HAl.out HA.out HA2.out)
          clear he
          go_wp2
          go_quiet (fail)
          go_wp2
          go_roundw
          case rel => exact ⟨k + 1, by omega, by go_num, HE.out, q + nq, rfl⟩
          case measure => simp [intOf]; omega
        · have HE : Hid (decide (L = M) = false) := Lib.hid (decide_eq_false (ne_at he HA.out HA2.out))
          rcases word_part he with h | ⟨rfl, h⟩ | ⟨rfl, rfl, h⟩ | ⟨rfl, rfl, rfl, h⟩
          · have hs : (s.toList == s2.toList) = false := by rw [str_eq]; exact decide_eq_false h
            clear he h
            go_wp2
            go_quiet (fail)
            go_wp2
            go_ret
            exact ⟨ret_bool HE.out.symm, q + nq, World.drewN_drewN _ _ _⟩
          all_goals
            clear he
            go_wp2
            go_quiet (fail)
            go_wp2
            go_ret
            exact ⟨ret_bool HE.out.symm, q + nq, World.drewN_drewN _ _ _⟩
      · obtain rfl : k = n := by omega
        have HE : Hid (decide (L = M) = true) := Lib.hid (decide_eq_true (by
          have h := HAl.out
          rwa [List.take_of_length_le (by rw [HLn.out]; exact Nat.le_refl _), List.take_of_length_le (by rw [HMn.out]; exact Nat.le_refl _)] at h))
        go_wp2
        go_ret
        exact ⟨ret_bool HE.out.symm, q, rfl⟩
  · have HE : Hid (decide (L = M) = false) := Lib.hid (decide_eq_false (by
      rintro rfl
      exact hnm (HLn.out.symm.trans HMn.out)))
    have e0 : ((n : Int) == m) = false := by rw [beq_eq_false_iff_ne]; omega
    clear hnm
    go_enter Tryd.func91, Tryd.ntmps91
    go_wp2
    go_ret
    exact ⟨ret_bool HE.out.symm, 0, rfl⟩
set_option maxHeartbeats 4000000 in
set_option maxRecDepth 100000 in
theorem rows_any (L M : List Wd) (n c m d : Nat) (A B : Option Addr) (w : World) (hl : Wds w A n c L) (hm : Wds w B m d M) :
    Calls Tryd.prog 87 #[.slice A n c, .slice B m d] w fun e w' => e = .returned (.bool (decide (L = M))) ∧ ∃ q, w' = w.drewN q := by
  have HL := Lib.hid hl
  have HM := Lib.hid hm
  have HLn := Lib.hid hl.1
  have HMn := Lib.hid hm.1
  have hnc := hl.2.1
  have hc := hl.2.2.1
  have hmd := hm.2.1
  have hd := hm.2.2.1
  clear hl hm
  by_cases hnm : n = m
  · subst hnm
    go_enter Tryd.func87, Tryd.ntmps87
    go_wp2
    go_loopw [5] (fun i wr => ∃ k : Nat, k ≤ n ∧ i = .int .i64 k ∧ L.take k = M.take k ∧ ∃ q, wr = w.drewN q) (fun i _ => n - (intOf i).toNat)
    case atStart => exact ⟨0, Nat.zero_le _, rfl, rfl, 0, rfl⟩
    case round =>
      obtain ⟨k, hk, rfl, hal, q, rfl⟩ := hrel
      have HAl := Lib.hid hal
      clear hal
      by_cases hlt : k < n
      · obtain ⟨b, off, ⟨s, ⟨x, y, z⟩⟩, rfl, hblt, ha, c0, c1, c2, c3⟩ := HL.out.at_ (Below.refl _ _) hlt
        obtain ⟨b2, off2, ⟨s2, ⟨x2, y2, z2⟩⟩, rfl, hblt2, ha2, d0, d1, d2, d3⟩ := HM.out.at_ (Below.refl _ _) hlt
        have HA := Lib.hid ha
        have HA2 := Lib.hid ha2
        clear ha ha2
        by_cases he : (⟨s, ⟨x, y, z⟩⟩ : Wd) = ⟨s2, ⟨x2, y2, z2⟩⟩
        · obtain ⟨rfl, rfl, rfl, rfl⟩ : s = s2 ∧ x = x2 ∧ y = y2 ∧ z = z2 := by simpa using he
          have HE := Lib.hid (take_eq HAl.out HA.out HA2.out)
          clear he
          go_wp2
          go_quiet (fail)
          go_wp2
          go_roundw
          case rel => exact ⟨k + 1, by omega, by go_num, HE.out, q + nq, rfl⟩
          case measure => simp [intOf]; omega
        · have HE : Hid (decide (L = M) = false) := Lib.hid (decide_eq_false (ne_at he HA.out HA2.out))
          rcases word_part he with h | ⟨rfl, h⟩ | ⟨rfl, rfl, h⟩ | ⟨rfl, rfl, rfl, h⟩
          · have hs : (s.toList == s2.toList) = false := by rw [str_eq]; exact decide_eq_false h
            clear he h
            go_wp2
            go_quiet (fail)
            go_wp2
            go_ret
            exact ⟨ret_bool HE.out.symm, q + nq, World.drewN_drewN _ _ _⟩
          all_goals
            clear he
            go_wp2
            go_quiet (fail)
            go_wp2
            go_ret
            exact ⟨ret_bool HE.out.symm, q + nq, World.drewN_drewN _ _ _⟩
      · obtain rfl : k = n := by omega
        have HE : Hid (decide (L = M) = true) := Lib.hid (decide_eq_true (by
          have h := HAl.out
          rwa [List.take_of_length_le (by rw [HLn.out]; exact Nat.le_refl _), List.take_of_length_le (by rw [HMn.out]; exact Nat.le_refl _)] at h))
        go_wp2
        go_ret
        exact ⟨ret_bool HE.out.symm, q, rfl⟩
  · have HE : Hid (decide (L = M) = false) := Lib.hid (decide_eq_false (by
      rintro rfl
      exact hnm (HLn.out.symm.trans HMn.out)))
    have e0 : ((n : Int) == m) = false := by rw [beq_eq_false_iff_ne]; omega
    clear hnm
    go_enter Tryd.func87, Tryd.ntmps87
    go_wp2
    go_ret
    exact ⟨ret_bool HE.out.symm, 0, rfl⟩
/-- What the search for a marked word answers. -/
def MkRet (L : List Wd) (e : Ending) : Prop := ∃ z : Int, e = .returned (.int .i64 z) ∧ (z < 0 ∧ plainW L = true ∨ 0 ≤ z ∧ plainW L = false)
set_option maxHeartbeats 4000000 in
set_option maxRecDepth 100000 in
theorem mindex_any (L : List Wd) (n c : Nat) (A : Option Addr) (w : World) (hl : Wds w A n c L) :
    Calls Tryd.prog 152 #[.slice A n c, .func (.func 126) #[] #[]] w fun e w' => MkRet L e ∧ Below w.heap.size w w' := by
  have HL := Lib.hid hl
  have HLn := Lib.hid hl.1
  have hnc := hl.2.1
  have hc := hl.2.2.1
  clear hl
  go_enter Tryd.func152, Tryd.ntmps152
  go_wp2
  go_loopw [8] (fun i wr => ∃ k : Nat, k ≤ n ∧ i = .int .i64 k ∧ plainW (L.take k) = true ∧ Below w.heap.size w wr) (fun i _ => n - (intOf i).toNat)
  case atStart => exact ⟨0, Nat.zero_le _, rfl, rfl, Below.refl _ _⟩
  case round =>
    rename World => wr
    obtain ⟨k, hk, rfl, hg, hbr⟩ := hrel
    have HG := Lib.hid hg
    have HB := Lib.hid hbr
    have hbz := hbr.size
    clear hg
    by_cases hlt : k < n
    · obtain ⟨b, off, a, rfl, hblt, ha, c0, c1, c2, c3⟩ := HL.out.at_ hbr hlt
      have HA := Lib.hid ha
      have HC := Lib.hid (marked_any a wr)
      clear ha hbr
      cases hm : decide (a.mark = .zero) with
      | false =>
        have HE : Hid (plainW L = false) := Lib.hid (all_mem HA.out hm)
        rw [hm] at HC
        clear hm
        go_wp2_with (go_at_call 126; ((with_reducible refine (HC.out).mono ?_); rintro e w1 ⟨rfl, hb1⟩))
        go_ret
        exact ⟨⟨_, rfl, Or.inr ⟨by omega, HE.out⟩⟩, HB.out.trans (hb1.mono hbz)⟩
      | true =>
        have HE : Hid (plainW (L.take (k + 1)) = true) := Lib.hid (all_take HA.out HG.out hm)
        rw [hm] at HC
        clear hm
        go_wp2_with (go_at_call 126; ((with_reducible refine (HC.out).mono ?_); rintro e w1 ⟨rfl, hb1⟩))
        go_roundw
        case rel => exact ⟨k + 1, by omega, by go_num, HE.out, HB.out.trans (hb1.mono hbz)⟩
        case measure => simp [intOf]; omega
    · obtain rfl : k = n := by omega
      have HE : Hid (plainW L = true) := Lib.hid (by
        have h := HG.out
        rwa [List.take_of_length_le (by rw [HLn.out]; exact Nat.le_refl _)] at h)
      go_wp2
      go_ret
      exact ⟨⟨_, rfl, Or.inl ⟨by omega, HE.out⟩⟩, HB.out⟩
set_option maxHeartbeats 4000000 in
set_option maxRecDepth 100000 in
theorem mcontains_any (L : List Wd) (n c : Nat) (A : Option Addr) (w : World) (hl : Wds w A n c L) :
    Calls Tryd.prog 125 #[.slice A n c, .func (.func 126) #[] #[]] w fun e w' => e = .returned (.bool (!plainW L)) ∧ Below w.heap.size w w' := by
  have HI := Lib.hid (mindex_any L n c A w hl)
  clear hl
  go_enter Tryd.func125, Tryd.ntmps125
  go_wp2_with fail
  with_reducible refine (HI.out).mono ?_
  rintro e w1 ⟨⟨z, rfl, hz⟩, hb1⟩
  rcases hz with ⟨h0, hp⟩ | ⟨h0, hp⟩
  · have HP := Lib.hid hp
    clear hp
    go_wp2
    go_ret
    exact ⟨ret_bool (by rw [HP.out]; first | (simp; done) | (simp; omega)), hb1⟩
  · have HP := Lib.hid hp
    clear hp
    go_wp2
    go_ret
    exact ⟨ret_bool (by rw [HP.out]; first | (simp; done) | (simp; omega)), hb1⟩
theorem unmarked_any (L : List Wd) (n c : Nat) (A : Option Addr) (w : World) (hl : Wds w A n c L) :
    Calls Tryd.prog 79 #[.slice A n c] w fun e w' => e = .returned (.bool (plainW L)) ∧ Below w.heap.size w w' := by
  have HI := Lib.hid (mcontains_any L n c A w hl)
  clear hl
  cases hp : plainW L with
  | true =>
    rw [hp] at HI
    go_enter Tryd.func79, Tryd.ntmps79
    go_wp2_with (go_at_call 125; ((with_reducible refine (HI.out).mono ?_); rintro e w1 ⟨rfl, hb1⟩))
    go_ret
    exact ⟨rfl, hb1⟩
  | false =>
    rw [hp] at HI
    go_enter Tryd.func79, Tryd.ntmps79
    go_wp2_with (go_at_call 125; ((with_reducible refine (HI.out).mono ?_); rintro e w1 ⟨rfl, hb1⟩))
    go_ret
    exact ⟨rfl, hb1⟩
end Go.Proofs.YtcacnelhppakoaaDoor
