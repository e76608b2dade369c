/-
  The text of a day: plain facts on decimal digits, and the contracts of Format and of the examples that every statement checks first.
-/
import Derived.Lib.ItoaNum
import Derived.Lib.LaidTab
import Derived.Lib.AppendIntMem
import Derived.Lib.SmallJoins
import Derived.Test.YtagapapnpefckaaDoorDays
import Derived.Test.YtagapapnpefckaaDoorShelf
namespace Go.Proofs.YtagapapnpefckaaDoor
open Go.RowKit (wrap32 wrap64 intOf Hid Below)
open Cal

/-- The table of powers of ten of the library is as its text lays it. -/
def Tab (w : World) : Prop := Lib.TabIs Tryd.prog w "internal/strconv.uint64pow10" .u64 Lib.pow10Tab
theorem Tab.below {w w' : World} (h : Tab w) (hb : Below w.heap.size w w') : Tab w' :=
  Joins.tab_stays (show Tryd.prog.globalNamed "internal/strconv.uint64pow10" = some 0 by kernel_rfl) h hb (Nat.le_refl _)

theorem itoa_any (n : Int) (w : World) (h : Tab w) (h0 : 0 ≤ n) (h1 : n ≤ 1000000) :
    Calls Tryd.prog 31 #[.int .i64 n] w fun e w' => e = .returned (.string ⟨(Lib.itoa n).toArray⟩) ∧ Below w.heap.size w w' :=
  (Tryd.strconv_Itoa n (by omega) (by omega) w h).mono fun e w' ⟨he, k, os, hw⟩ => ⟨he, by rw [hw]; exact Lib.below_grow _ w (Nat.le_refl _) k os⟩

def d8 (n : Nat) : UInt8 := UInt8.ofNat (48 + n % 10)
/-- Four digits. -/
def four (n : Nat) : List UInt8 := [d8 (n / 1000), d8 (n / 100), d8 (n / 10), d8 n]
def three (n : Nat) : List UInt8 := [d8 (n / 100), d8 (n / 10), d8 n]
theorem dec_four (n : Nat) (h0 : 1000 ≤ n) (h1 : n ≤ 9999) : Lib.decDigits n = four n := by
  rw [Lib.decDigits, dif_neg (by omega), Lib.decDigits, dif_neg (by omega), Lib.decDigits, dif_neg (by omega), Lib.decDigits, dif_pos (by omega)]
  simp only [four, d8, Nat.div_div_eq_div_mul]
  have : n / 1000 % 10 = n / 1000 := by omega
  simp [this]
theorem itoa_four (n : Int) (h0 : 1000 ≤ n) (h1 : n ≤ 9999) : Lib.itoa n = four n.toNat := by
  unfold Lib.itoa
  rw [if_neg (by omega), dec_four _ (by omega) (by omega)]
theorem three_of (n : Nat) : (four (1000 + n)).drop 1 = three n := by
  have e1 : (1000 + n) / 100 % 10 = n / 100 % 10 := by omega
  have e2 : (1000 + n) / 10 % 10 = n / 10 % 10 := by omega
  have e3 : (1000 + n) % 10 = n % 10 := by omega
  simp [four, three, d8, e1, e2, e3]
/-- The text of a day of a year. -/
def txtL (y m : Nat) : List UInt8 := four y ++ 45 :: three m
def txt (y m : Int) : ByteArray := ⟨(txtL y.toNat m.toNat).toArray⟩

theorem ret_str {a b : ByteArray} (h : a = b) : Ending.returned (.string a) = .returned (.string b) := by rw [h]
theorem txt_mk (y m : Nat) : (⟨#[d8 (y / 1000), d8 (y / 100), d8 (y / 10), d8 y]⟩ ++ ⟨#[45]⟩ ++ (⟨#[d8 ((1000 + m) / 1000), d8 ((1000 + m) / 100), d8 ((1000 + m) / 10), d8 (1000 + m)]⟩ : ByteArray).extract 1 4 : ByteArray) = ⟨(txtL y m).toArray⟩ := by
  have e := three_of m
  simp only [four, List.drop_succ_cons, List.drop_zero] at e
  have e' : (⟨#[d8 ((1000 + m) / 1000), d8 ((1000 + m) / 100), d8 ((1000 + m) / 10), d8 (1000 + m)]⟩ : ByteArray).extract 1 4 = ⟨(three m).toArray⟩ := by
    rw [← e]; rfl
  rw [e']
  rfl
/-- What Format returns at a day. -/
def TextIs (d : Int) (e : Ending) : Prop := ∃ y : Int, 1900 ≤ y ∧ fy y ≤ d ∧ d < fy (y + 1) ∧ e = .returned (.string (txt y (d - fy y + 1)))
theorem itoa4_any (n : Int) (w : World) (h : Tab w) (h0 : 1000 ≤ n) (h1 : n ≤ 9999) :
    Calls Tryd.prog 31 #[.int .i64 n] w fun e w' => e = .returned (.string ⟨#[d8 (n.toNat / 1000), d8 (n.toNat / 100), d8 (n.toNat / 10), d8 n.toNat]⟩) ∧ Below w.heap.size w w' :=
  (itoa_any n w h (by omega) (by omega)).mono fun e w' ⟨he, hb⟩ => ⟨by rw [he, itoa_four n h0 h1]; rfl, hb⟩
theorem year_lt {y d : Int} (h0 : fy y ≤ d) (h1 : d ≤ 1048576) : y < 5000 := by
  rcases Int.lt_or_le y 5000 with h5 | h5
  · exact h5
  · have := fy_le 5000 y h5; have := fy_5000; omega
theorem of_le {y d : Int} (hy : 1900 ≤ y) (h1 : d < fy (y + 1)) : d - fy y < 366 := by
  have := fy_succ y (by omega)
  rcases len_cases y with h | h <;> omega

set_option maxHeartbeats 400000 in
theorem format_yes (d : Int) (w : World) (ht : Tab w) (h0 : 0 ≤ d) (h1 : d ≤ 1048576) :
    Calls Tryd.prog 17 #[.int .i64 d] w fun e w' => TextIs d e ∧ Below w.heap.size w w' := by
  go_enter Tryd.func17, Tryd.ntmps17
  go_wp2_with (first
    | (go_at_call 27; refine (isDay_yes _ _ h0 h1).mono ?_; rintro e w' ⟨rfl, rfl⟩)
    | (go_at_call 10; refine (yearDay_yes _ _ h0 h1).mono ?_; rintro e w' ⟨⟨y, hy0, hy1, hy2, rfl⟩, rfl⟩; have hy3 := year_lt hy1 h1; have hm := of_le hy0 hy2)
    | (go_at_call 31; refine (itoa4_any _ _ (by first | exact ht | exact ht.below (by assumption)) (by omega) (by omega)).mono ?_; rintro e w' ⟨rfl, hb⟩))
  go_ret
  refine ⟨⟨y, hy0, hy1, hy2, ?_⟩, (by assumption : Below _ _ _).trans (hb.mono (Below.size (by assumption)))⟩
  rw [show (1000 + (d - fy y + 1)).toNat = 1000 + (d - fy y + 1).toNat by omega]
  exact ret_str (txt_mk _ _)
theorem format_no (d : Int) (w : World) (h : d < 0 ∨ 1048576 < d) :
    Calls Tryd.prog 17 #[.int .i64 d] w fun e w' => e = .returned (.string ⟨#[]⟩) ∧ w' = w := by
  go_enter Tryd.func17, Tryd.ntmps17
  go_wp2_with (go_at_call 27; refine (isDay_no _ _ h).mono ?_; rintro e w' ⟨rfl, rfl⟩)
  go_ret
  exact ⟨rfl, rfl⟩
theorem format_0 (w : World) (ht : Tab w) :
    Calls Tryd.prog 17 #[.int .i64 0] w fun e w' => e = .returned (.string ⟨#[49, 57, 48, 48, 45, 48, 48, 49]⟩) ∧ Below w.heap.size w w' :=
  (format_yes 0 w ht (by omega) (by omega)).mono fun e w' ⟨⟨y, h0, h1, h2, he⟩, hb⟩ => ⟨by
    have e1 : fy 1900 = 0 := by decide
    have e2 : fy (1900 + 1) = 365 := by decide
    obtain rfl : y = 1900 := fy_unique y 1900 0 h1 h2 (by omega) (by omega)
    rw [he, e1]; rfl, hb⟩
theorem format_365 (w : World) (ht : Tab w) :
    Calls Tryd.prog 17 #[.int .i64 365] w fun e w' => e = .returned (.string ⟨#[49, 57, 48, 49, 45, 48, 48, 49]⟩) ∧ Below w.heap.size w w' :=
  (format_yes 365 w ht (by omega) (by omega)).mono fun e w' ⟨⟨y, h0, h1, h2, he⟩, hb⟩ => ⟨by
    have e1 : fy 1901 = 365 := by decide
    have e2 : fy (1901 + 1) = 730 := by decide
    obtain rfl : y = 1901 := fy_unique y 1901 365 h1 h2 (by omega) (by omega)
    rw [he, e1]; rfl, hb⟩

set_option maxHeartbeats 400000 in
/-- The chapter's examples hold. -/
theorem awake_any (w : World) (ht : Tab w) :
    Calls Tryd.prog 9 #[] w fun e w' => e = .returned (.bool true) ∧ Below w.heap.size w w' := by
  have l1 : leapB 1904 = true := by decide
  have l2 : leapB 1900 = false := by decide
  have L1 := Lib.hid l1
  have L2 := Lib.hid l2
  clear l1 l2
  go_enter Tryd.func9, Tryd.ntmps9
  go_wp2_with (first
    | (go_at_call 17; ((with_reducible refine (format_0 _ ht).mono ?_); rintro e w' ⟨rfl, hb⟩))
    | (go_at_call 17; ((with_reducible refine (format_365 _ (ht.below (by assumption))).mono ?_); rintro e w' ⟨rfl, hb2⟩))
    | (go_at_call 13; ((with_reducible refine (isLeap_any 1904 _).mono ?_); rw [L1.out]; rintro e w' ⟨rfl, rfl⟩))
    | (go_at_call 13; ((with_reducible refine (isLeap_any 1900 _).mono ?_); rw [L2.out]; rintro e w' ⟨rfl, rfl⟩)))
  go_ret
  exact ⟨rfl, hb.trans (hb2.mono hb.size)⟩
end Go.Proofs.YtagapapnpefckaaDoor
