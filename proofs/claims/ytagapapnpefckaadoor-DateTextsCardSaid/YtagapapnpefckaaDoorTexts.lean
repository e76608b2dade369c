/-
  The reference's Text: the contract of Digits, round by round; the texts of days are in the order of the days.
-/
import Derived.Test.YtagapapnpefckaaDoorLawC
namespace Go.Proofs.YtagapapnpefckaaDoor
open Go.RowKit (wrap32 wrap64 intOf Hid Below)
open Cal

/-- A number as a byte. -/
def byteOf (m : Int) : UInt8 := UInt8.ofNat m.toNat
/-- A new slice of one byte, made a string. -/
theorem conv_one (W : World) (b : Nat) (m : Int) (t : TypeId) (hb : b = W.heap.size) :
    (convert 43 9 (.slice (some ⟨b, 0, none⟩) 1 1)).run Tryd.prog (W.alloc (.cells #[.int .u8 m] t)) = .ok (.string ⟨#[byteOf m]⟩) (W.alloc (.cells #[.int .u8 m] t)) := by
  subst hb
  rw [run_convert_bytes_string _ _ _ 5 _ _ _ Tryd.underlying43 Tryd.underlying5 Tryd.underlying9]
  rw [run_bytesToString _ _ 1 1 [m] (by go_simp)]
  rfl

theorem byte_dig (n : Nat) : byteOf (48 + (n : Int) % 10) = d8 n := by
  unfold d8 byteOf
  rw [show (48 + (n : Int) % 10).toNat = 48 + n % 10 by omega]
set_option maxHeartbeats 1000000 in
theorem digits4 (n : Nat) (w : World) (h1 : n ≤ 9999) :
    Calls Tryd.prog 34 #[.int .i64 n, .int .i64 4] w fun e w' => e = .returned (.string ⟨(four n).toArray⟩) ∧ Below w.heap.size w w' := by
  have kc := conv_one
  go_enter Tryd.func34, Tryd.ntmps34
  go_wp2
  refine wp_loop_rounds 5 ?_
  iterate 5
    rw [rounds_succ]
    go_wp2
  go_ret
  refine ⟨ret_str ?_, ((((Below.refl _ _).alloc (Nat.le_refl _) _).alloc (by simp) _).alloc (by simp; omega) _).alloc (by simp; omega) _⟩
  have e1 : (n : Int) / 10 = ((n / 10 : Nat) : Int) := by omega
  have e2 : (n : Int) / 10 / 10 = ((n / 100 : Nat) : Int) := by omega
  have e3 : (n : Int) / 10 / 10 / 10 = ((n / 1000 : Nat) : Int) := by omega
  rw [four, ← byte_dig, ← byte_dig, ← byte_dig, ← byte_dig, ← e1, ← e2, ← e3]
  rfl
set_option maxHeartbeats 1000000 in
theorem digits3 (n : Nat) (w : World) (h1 : n ≤ 999) :
    Calls Tryd.prog 34 #[.int .i64 n, .int .i64 3] w fun e w' => e = .returned (.string ⟨(three n).toArray⟩) ∧ Below w.heap.size w w' := by
  have kc := conv_one
  go_enter Tryd.func34, Tryd.ntmps34
  go_wp2
  refine wp_loop_rounds 4 ?_
  iterate 4
    rw [rounds_succ]
    go_wp2
  go_ret
  refine ⟨ret_str ?_, (((Below.refl _ _).alloc (Nat.le_refl _) _).alloc (by simp) _).alloc (by simp; omega) _⟩
  have e1 : (n : Int) / 10 = ((n / 10 : Nat) : Int) := by omega
  have e2 : (n : Int) / 10 / 10 = ((n / 100 : Nat) : Int) := by omega
  rw [three, ← byte_dig, ← byte_dig, ← byte_dig, ← e1, ← e2]
  rfl

set_option maxRecDepth 100000 in
set_option maxHeartbeats 400000 in
theorem text_at (d Y : Int) (w : World) (h1 : d ≤ 1048576) (hY : 1900 ≤ Y) (hl : fy Y ≤ d) (hr : d < fy (Y + 1)) :
    Calls Tryd.prog 19 #[.int .i64 d] w fun e w' => e = .returned (.string (txt Y (d - fy Y + 1))) ∧ Below w.heap.size w w' := by
  have hY2 := year_lt hl h1
  have hm := of_le hY hr
  obtain ⟨y, rfl⟩ : ∃ y : Nat, Y = y := ⟨Y.toNat, by omega⟩
  obtain ⟨m, hm'⟩ : ∃ m : Nat, d - fy y + 1 = m := ⟨(d - fy y + 1).toNat, by omega⟩
  have hy4 : y ≤ 9999 := by omega
  have hm4 : m ≤ 999 := by omega
  have HY : Hid (∀ W, Calls Tryd.prog 16 #[.int .i64 d] W fun e w' => e = .returned (.tuple #[.int .i64 y, .int .i64 m]) ∧ w' = W) := Lib.hid fun W => by
    rw [← hm']
    exact year_at d y W h1 hY hl hr
  rw [hm']
  clear hm' hm hl hr
  go_enter Tryd.func19, Tryd.ntmps19
  go_wp2_with (first
    | (go_at_call 16; refine (HY.out _).mono ?_; rintro e w' ⟨rfl, rfl⟩)
    | (go_at_call 34; ((with_reducible refine (digits4 y _ hy4).mono ?_); rintro e w' ⟨rfl, hb1⟩))
    | (go_at_call 34; ((with_reducible refine (digits3 m _ hm4).mono ?_); rintro e w' ⟨rfl, hb2⟩)))
  go_ret
  exact ⟨ret_str rfl, hb1.trans (hb2.mono hb1.size)⟩
end Go.Proofs.YtagapapnpefckaaDoor
