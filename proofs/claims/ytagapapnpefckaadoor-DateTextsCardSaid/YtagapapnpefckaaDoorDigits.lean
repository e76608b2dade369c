/-
  Decimal digits of a text: plain facts, and the contract of parseDigits.
-/
import Derived.Test.YtagapapnpefckaaDoorRef
namespace Go.Proofs.YtagapapnpefckaaDoor
open Go.RowKit (wrap32 wrap64 intOf Hid Below)
open Cal

def isDig (c : UInt8) : Bool := decide (48 ≤ c.toNat ∧ c.toNat ≤ 57)
def allDig (l : List UInt8) : Bool := l.all isDig
/-- The number that a list of digits stands for. -/
def val (l : List UInt8) : Nat := l.foldl (fun n c => n * 10 + (c.toNat - 48)) 0
theorem val_snoc (l : List UInt8) (c : UInt8) : val (l ++ [c]) = val l * 10 + (c.toNat - 48) := by simp [val]
theorem allDig_snoc (l : List UInt8) (c : UInt8) : allDig (l ++ [c]) = (allDig l && isDig c) := by simp [allDig]
theorem foldl_lt : ∀ (l : List UInt8), allDig l = true → ∀ a : Nat, l.foldl (fun n c => n * 10 + (c.toNat - 48)) a < (a + 1) * 10 ^ l.length
  | [], _, a => by simp
  | c :: l, h, a => by
    have h' : isDig c = true ∧ allDig l = true := by simpa [allDig] using h
    have h2 : 48 ≤ c.toNat ∧ c.toNat ≤ 57 := by simpa [isDig] using h'.1
    have ih := foldl_lt l h'.2 (a * 10 + (c.toNat - 48))
    have hm : (a * 10 + (c.toNat - 48) + 1) * 10 ^ l.length ≤ ((a + 1) * 10) * 10 ^ l.length := Nat.mul_le_mul_right _ (by omega)
    rw [List.foldl_cons, List.length_cons, Nat.pow_succ, Nat.mul_comm (10 ^ l.length) 10, ← Nat.mul_assoc]
    omega
theorem val_lt (l : List UInt8) (h : allDig l = true) : val l < 10 ^ l.length := by
  have := foldl_lt l h 0
  simpa [val] using this
theorem allDig_take (l : List UInt8) (k : Nat) (h : allDig l = true) : allDig (l.take k) = true := by
  unfold allDig at *
  rw [List.all_eq_true] at *
  exact fun x hx => h x (List.mem_of_mem_take hx)
theorem allDig_at (l : List UInt8) (k : Nat) (hk : k < l.length) (h : isDig l[k] = false) : allDig l = false := by
  unfold allDig
  rw [List.all_eq_false]
  exact ⟨l[k], List.getElem_mem hk, by simp [h]⟩
theorem take_snoc (s : ByteArray) (k : Nat) (h : k < s.size) : s.data.toList.take (k + 1) = s.data.toList.take k ++ [s[k]] := by
  rw [List.take_succ_eq_append_getElem (by simpa using h)]; rfl

/-- What parseDigits returns. -/
def digV (s : ByteArray) : Int := if allDig s.data.toList then (val s.data.toList : Int) else 0
def digB (s : ByteArray) : Bool := allDig s.data.toList

set_option maxHeartbeats 400000 in
theorem parseDigits_any (s : ByteArray) (w : World) (hs : s.size ≤ 8) :
    Calls Tryd.prog 32 #[.string s] w fun e w' => e = .returned (.tuple #[.int .i64 (digV s), .bool (digB s)]) ∧ w' = w := by
  go_enter Tryd.func32, Tryd.ntmps32
  go_wp2
  go_loop [4, 8] (fun n i => ∃ k : Nat, k ≤ s.size ∧ i = .int .i64 k ∧ n = .int .i64 (val (s.data.toList.take k)) ∧ allDig (s.data.toList.take k) = true) (fun _ i => s.size - (intOf i).toNat)
  case atStart => exact ⟨0, Nat.zero_le _, rfl, rfl, rfl⟩
  case round =>
    obtain ⟨k, hk, rfl, rfl, had⟩ := hrel
    have HD := Lib.hid had
    have hvl := val_lt _ had
    have hlen : (s.data.toList.take k).length ≤ 8 := by rw [List.length_take]; omega
    have hv : val (s.data.toList.take k) < 100000000 := by
      have := Nat.pow_le_pow_right (n := 10) (by omega) hlen
      omega
    clear hvl had
    by_cases hlt : k < s.size
    · have HS := Lib.hid (val_snoc (s.data.toList.take k) s[k])
      have HT := Lib.hid (take_snoc s k hlt)
      have HA := Lib.hid (allDig_snoc (s.data.toList.take k) s[k])
      by_cases h48 : (s[k].toNat : Int) < 48
      · go_wp2
        go_ret2
        have hf : digB s = false := allDig_at _ k (by simpa using hlt) (by show isDig s[k] = false; unfold isDig; rw [decide_eq_false_iff_not]; omega)
        exact ⟨ret_intbool (by unfold digV; rw [if_neg (by have := hf; unfold digB at this; simp [this])]) hf.symm, rfl⟩
      · by_cases h57 : 57 < (s[k].toNat : Int)
        · go_wp2
          go_ret2
          have hf : digB s = false := allDig_at _ k (by simpa using hlt) (by show isDig s[k] = false; unfold isDig; rw [decide_eq_false_iff_not]; omega)
          exact ⟨ret_intbool (by unfold digV; rw [if_neg (by have := hf; unfold digB at this; simp [this])]) hf.symm, rfl⟩
        · go_wp2
          go_round
          case rel => exact ⟨k + 1, by omega, by go_num, by rw [HT.out, HS.out]; congr 1; push_cast; omega, by rw [HT.out, HA.out, HD.out]; simp [isDig]; omega⟩
          case measure => simp [intOf]; omega
    · obtain rfl : k = s.size := by omega
      go_wp2
      go_ret2
      have e : s.data.toList.take s.size = s.data.toList := List.take_of_length_le (by simp)
      have hd := HD.out
      rw [e] at hd
      exact ⟨ret_intbool (by rw [e]; unfold digV; rw [if_pos hd]) hd.symm, rfl⟩
end Go.Proofs.YtagapapnpefckaaDoor
