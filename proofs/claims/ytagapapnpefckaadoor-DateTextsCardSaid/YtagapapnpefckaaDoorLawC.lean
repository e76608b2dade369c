/-
  The walk of the law DateParses.
-/
import Derived.Test.YtagapapnpefckaaDoorRefParse
namespace Go.Proofs.YtagapapnpefckaaDoor
open Go.RowKit (wrap32 wrap64 intOf Hid Below)
open Cal

theorem parse_any (s : ByteArray) (w : World) (hs : s.size = 8) (hc : (s[4].toNat : Int) = 45) :
    Calls Tryd.prog 18 #[.string s] w fun e w' => e = .returned (refAns s) ∧ w' = w := by
  cases hd : (allDig (l4 s) && allDig (l3 s))
  · unfold refAns
    rw [hd]
    exact parse_bad s w hs hc _ _ _ _ hd (fun W => pd4 s W hs) (fun W => pd3 s W hs)
  · have hd' : allDig (l4 s) = true ∧ allDig (l3 s) = true := by simpa using hd
    have v4 := val_lt _ hd'.1
    have v3 := val_lt _ hd'.2
    rw [l4_length s hs] at v4
    rw [l3_length s hs] at v3
    have h4 : ∀ W, Calls Tryd.prog 32 #[.string (s.extract 0 4)] W fun e w' => e = .returned (.tuple #[.int .i64 (val (l4 s)), .bool true]) ∧ w' = W := fun W => by
      have := pd4 s W hs
      rw [dv, hd'.1] at this
      exact this
    have h3 : ∀ W, Calls Tryd.prog 32 #[.string (s.extract 5 8)] W fun e w' => e = .returned (.tuple #[.int .i64 (val (l3 s)), .bool true]) ∧ w' = W := fun W => by
      have := pd3 s W hs
      rw [dv, hd'.2] at this
      exact this
    unfold refAns
    rw [hd]
    exact parse_good s w hs hc (val (l4 s)) (val (l3 s)) (by omega) (by omega) h4 h3

theorem d8_dig (c : UInt8) (n : Nat) (h : isDig c = true) (e : n % 10 = c.toNat - 48) : d8 n = c := by
  have h2 : 48 ≤ c.toNat ∧ c.toNat ≤ 57 := by simpa [isDig] using h
  unfold d8
  rw [e, show 48 + (c.toNat - 48) = c.toNat by omega]
  simp
theorem four_val (t : List UInt8) (ht : t.length = 4) (h : allDig t = true) : four (val t) = t := by
  match t, ht with
  | a :: b :: c :: d :: [], _ =>
    have hh : isDig a = true ∧ isDig b = true ∧ isDig c = true ∧ isDig d = true := by simpa [allDig] using h
    obtain ⟨ha, hb, hc, hd⟩ := hh
    have a2 : 48 ≤ a.toNat ∧ a.toNat ≤ 57 := by simpa [isDig] using ha
    have b2 : 48 ≤ b.toNat ∧ b.toNat ≤ 57 := by simpa [isDig] using hb
    have c2 : 48 ≤ c.toNat ∧ c.toNat ≤ 57 := by simpa [isDig] using hc
    have d2 : 48 ≤ d.toNat ∧ d.toNat ≤ 57 := by simpa [isDig] using hd
    have e : val [a, b, c, d] = (((a.toNat - 48) * 10 + (b.toNat - 48)) * 10 + (c.toNat - 48)) * 10 + (d.toNat - 48) := by simp [val]
    unfold four
    rw [d8_dig a _ ha (by omega), d8_dig b _ hb (by omega), d8_dig c _ hc (by omega), d8_dig d _ hd (by omega)]
theorem three_val (t : List UInt8) (ht : t.length = 3) (h : allDig t = true) : three (val t) = t := by
  match t, ht with
  | b :: c :: d :: [], _ =>
    have hh : isDig b = true ∧ isDig c = true ∧ isDig d = true := by simpa [allDig] using h
    obtain ⟨hb, hc, hd⟩ := hh
    have b2 : 48 ≤ b.toNat ∧ b.toNat ≤ 57 := by simpa [isDig] using hb
    have c2 : 48 ≤ c.toNat ∧ c.toNat ≤ 57 := by simpa [isDig] using hc
    have d2 : 48 ≤ d.toNat ∧ d.toNat ≤ 57 := by simpa [isDig] using hd
    have e : val [b, c, d] = ((b.toNat - 48) * 10 + (c.toNat - 48)) * 10 + (d.toNat - 48) := by simp [val]
    unfold three
    rw [d8_dig b _ hb (by omega), d8_dig c _ hc (by omega), d8_dig d _ hd (by omega)]
theorem split8 (t : List UInt8) (ht : t.length = 8) : t = t.take 4 ++ t[4] :: t.drop 5 := by
  match t, ht with
  | c0 :: c1 :: c2 :: c3 :: c4 :: c5 :: c6 :: c7 :: [], _ => rfl
/-- The text of the day that an accepted text stands for is that text. -/
theorem txt_back (s : ByteArray) (hs : s.size = 8) (hc : (s[4].toNat : Int) = 45) (hd : (allDig (l4 s) && allDig (l3 s)) = true) : txt (val (l4 s)) (val (l3 s)) = s := by
  have hd' : allDig (l4 s) = true ∧ allDig (l3 s) = true := by simpa using hd
  have h8 := len8 s hs
  have e4 : l4 s = s.data.toList.take 4 := ext4 s.data.toList h8
  have e3 : l3 s = s.data.toList.drop 5 := ext3 s.data.toList h8
  have c4 : s.data.toList[4] = 45 := UInt8.toNat_inj.1 (by
    have : s[4].toNat = 45 := by omega
    exact this)
  unfold txt txtL
  rw [Int.toNat_natCast, Int.toNat_natCast, four_val _ (l4_length s hs) hd'.1, three_val _ (l3_length s hs) hd'.2]
  have := split8 s.data.toList h8
  rw [c4, ← e4, ← e3] at this
  rw [← this]

theorem format_back (s : ByteArray) (w : World) (ht : Tab w) (hs : s.size = 8) (hc : (s[4].toNat : Int) = 45) (hd : (allDig (l4 s) && allDig (l3 s)) = true) (hi : inB (val (l4 s)) (val (l3 s)) = true) :
    Calls Tryd.prog 17 #[.int .i64 (fy (val (l4 s)) + (val (l3 s) : Int) - 1)] w fun e w' => e = .returned (.string s) ∧ Below w.heap.size w w' := by
  obtain ⟨hb, x1, x2, x3⟩ := inB_yes hi
  have hbs := startB_le hb
  have hsu := fy_succ (val (l4 s)) (by omega)
  refine (format_yes _ w ht (by omega) x3).mono fun e w' ⟨⟨y, h0, h1, h2, he⟩, hb⟩ => ⟨?_, hb⟩
  have ey : y = (val (l4 s) : Int) := fy_unique y _ _ h1 h2 (by omega) (by omega)
  rw [he, ey, show fy (val (l4 s)) + (val (l3 s) : Int) - 1 - fy (val (l4 s)) + 1 = (val (l3 s) : Int) by omega, txt_back s hs hc hd]

set_option maxHeartbeats 400000 in
theorem lawParses_err (s : ByteArray) (w : World) (ht : Tab w) (k : Int) (hk : 2 ≤ k ∧ k ≤ 3) (hw : s.size ≤ maxLen)
    (hA : ∀ W, Calls Tryd.prog 18 #[.string s] W fun e w' => e = .returned (.tuple #[.int .i64 0, .int .i64 k]) ∧ w' = W)
    (hB : ∀ W, Calls Tryd.prog 20 #[.string s] W fun e w' => e = .returned (.tuple #[.int .i64 0, .int .i64 k]) ∧ w' = W) :
    Calls Tryd.prog 5 #[.string s] w fun e w' => e = .returned (.bool true) ∧ Below w.heap.size w w' := by
  have HA := Lib.hid hA
  have HB := Lib.hid hB
  clear hA hB
  unfold maxLen at hw
  by_cases hl : 1000 < s.size
  all_goals
    go_enter Tryd.func5, Tryd.ntmps5
    go_wp2_with (first
      | (go_at_call 9; refine (awake_any _ ht).mono ?_; rintro e w' ⟨rfl, hb⟩)
      | (go_at_call 18; refine (HA.out _).mono ?_; rintro e w' ⟨rfl, rfl⟩)
      | (go_at_call 20; refine (HB.out _).mono ?_; rintro e w' ⟨rfl, rfl⟩))
    go_ret
    exact ⟨rfl, by assumption⟩
set_option maxHeartbeats 400000 in
theorem lawParses_ok (s : ByteArray) (w : World) (ht : Tab w) (n : Int) (hs : s.size = 8)
    (hA : ∀ W, Calls Tryd.prog 18 #[.string s] W fun e w' => e = .returned (.tuple #[.int .i64 n, .int .i64 0]) ∧ w' = W)
    (hB : ∀ W, Calls Tryd.prog 20 #[.string s] W fun e w' => e = .returned (.tuple #[.int .i64 n, .int .i64 0]) ∧ w' = W)
    (hC : ∀ W, Tab W → Calls Tryd.prog 17 #[.int .i64 n] W fun e w' => e = .returned (.string s) ∧ Below W.heap.size W w') :
    Calls Tryd.prog 5 #[.string s] w fun e w' => e = .returned (.bool true) ∧ Below w.heap.size w w' := by
  have HA := Lib.hid hA
  have HB := Lib.hid hB
  have HC := Lib.hid hC
  clear hA hB hC
  go_enter Tryd.func5, Tryd.ntmps5
  go_wp2_with (first
    | (go_at_call 9; refine (awake_any _ ht).mono ?_; rintro e w' ⟨rfl, hb⟩)
    | (go_at_call 18; refine (HA.out _).mono ?_; rintro e w' ⟨rfl, rfl⟩)
    | (go_at_call 17; refine (HC.out _ (ht.below (by assumption))).mono ?_; rintro e w' ⟨rfl, hb2⟩)
    | (go_at_call 20; refine (HB.out _).mono ?_; rintro e w' ⟨rfl, rfl⟩))
  go_ret
  exact ⟨rfl, (by assumption : Below _ _ _).trans (hb2.mono (Below.size (by assumption)))⟩

/-- The law DateParses. -/
theorem lawParses (s : ByteArray) (w : World) (ht : Tab w) (hw : s.size ≤ maxLen) :
    Calls Tryd.prog 5 #[.string s] w fun e w' => e = .returned (.bool true) ∧ Below w.heap.size w w' := by
  by_cases hs : s.size = 8
  · by_cases hc : (s[4].toNat : Int) = 45
    · cases hd : (allDig (l4 s) && allDig (l3 s))
      · have e : refAns s = .tuple #[.int .i64 0, .int .i64 2] := by unfold refAns; rw [hd]; rfl
        exact lawParses_err s w ht 2 (by omega) hw (fun W => by rw [← e]; exact parse_any s W hs hc) (fun W => by rw [← e]; exact refParse_any s W hs hc)
      · cases hi : inB (val (l4 s)) (val (l3 s))
        · have e : refAns s = .tuple #[.int .i64 0, .int .i64 3] := by unfold refAns; rw [hd, hi]; rfl
          exact lawParses_err s w ht 3 (by omega) hw (fun W => by rw [← e]; exact parse_any s W hs hc) (fun W => by rw [← e]; exact refParse_any s W hs hc)
        · have e : refAns s = .tuple #[.int .i64 (fy (val (l4 s)) + (val (l3 s) : Int) - 1), .int .i64 0] := by unfold refAns; rw [hd, hi]; rfl
          exact lawParses_ok s w ht _ hs (fun W => by rw [← e]; exact parse_any s W hs hc) (fun W => by rw [← e]; exact refParse_any s W hs hc) (fun W hW => format_back s W hW hs hc hd hi)
    · exact lawParses_err s w ht 2 (by omega) hw (fun W => parse_dash s W hs hc) (fun W => refParse_dash s W hs hc)
  · exact lawParses_err s w ht 2 (by omega) hw (fun W => parse_size s W hs) (fun W => refParse_size s W hs)
end Go.Proofs.YtagapapnpefckaaDoor
