/-
  The contract of the reference's Parse at every text.
-/
import Derived.Test.YtagapapnpefckaaDoorParse
namespace Go.Proofs.YtagapapnpefckaaDoor
open Go.RowKit (wrap32 wrap64 intOf Hid Below)
open Cal

theorem at_any (y m : Int) (w : World) (h0 : 0 ≤ m) (h1 : m ≤ 999) :
    Calls Tryd.prog 35 #[.int .i64 y, .int .i64 m] w fun e w' => e = .returned (.tuple #[.int .i64 (if inB y m then fy y + m - 1 else 0), .bool (inB y m)]) ∧ w' = w := by
  cases hb : startB y
  · have hi : inB y m = false := by simp [inB, hb]
    rw [hi]
    exact at_none y m w hb
  · cases hi : inB y m
    · exact at_off y m w hb h0 (by omega) (inB_no hi hb)
    · obtain ⟨_, x1, x2, x3⟩ := inB_yes hi
      exact at_yes y m w hb x1 x2 x3

/-- The digits among the first k bytes: the hyphen is passed over. -/
def up (t : List UInt8) (k : Nat) : List UInt8 := (t.take k).take 4 ++ (t.take k).drop 5
theorem up_step (t : List UInt8) (k : Nat) (ht : t.length = 8) (hk : k < 8) (h4 : k ≠ 4) : up t (k + 1) = up t k ++ [t[k]] := by
  match t, ht with
  | c0 :: c1 :: c2 :: c3 :: c4 :: c5 :: c6 :: c7 :: [], _ => rcases (by omega : k = 0 ∨ k = 1 ∨ k = 2 ∨ k = 3 ∨ k = 5 ∨ k = 6 ∨ k = 7) with rfl | rfl | rfl | rfl | rfl | rfl | rfl <;> rfl
theorem up_mid (t : List UInt8) (ht : t.length = 8) : up t 5 = up t 4 := by
  match t, ht with
  | c0 :: c1 :: c2 :: c3 :: c4 :: c5 :: c6 :: c7 :: [], _ => rfl
theorem up_end (t : List UInt8) (ht : t.length = 8) : up t 8 = t.take 4 ++ t.drop 5 := by
  match t, ht with
  | c0 :: c1 :: c2 :: c3 :: c4 :: c5 :: c6 :: c7 :: [], _ => rfl
theorem up_mem (t : List UInt8) (k : Nat) (ht : t.length = 8) (hk : k < 8) (h4 : k ≠ 4) : t[k] ∈ up t 8 := by
  match t, ht with
  | c0 :: c1 :: c2 :: c3 :: c4 :: c5 :: c6 :: c7 :: [], _ => rcases (by omega : k = 0 ∨ k = 1 ∨ k = 2 ∨ k = 3 ∨ k = 5 ∨ k = 6 ∨ k = 7) with rfl | rfl | rfl | rfl | rfl | rfl | rfl <;> simp [up]
theorem ext4 (t : List UInt8) (ht : t.length = 8) : ((⟨⟨t⟩⟩ : ByteArray).extract 0 4).data.toList = t.take 4 := by
  match t, ht with
  | c0 :: c1 :: c2 :: c3 :: c4 :: c5 :: c6 :: c7 :: [], _ => rfl
theorem ext3 (t : List UInt8) (ht : t.length = 8) : ((⟨⟨t⟩⟩ : ByteArray).extract 5 8).data.toList = t.drop 5 := by
  match t, ht with
  | c0 :: c1 :: c2 :: c3 :: c4 :: c5 :: c6 :: c7 :: [], _ => rfl
def upTo (s : ByteArray) (k : Nat) : List UInt8 := up s.data.toList k
theorem len8 (s : ByteArray) (hs : s.size = 8) : s.data.toList.length = 8 := by simpa using hs
theorem upTo_step (s : ByteArray) (k : Nat) (hs : s.size = 8) (hk : k < 8) (h4 : k ≠ 4) : upTo s (k + 1) = upTo s k ++ [s[k]] := up_step s.data.toList k (len8 s hs) hk h4
theorem upTo_mid (s : ByteArray) (hs : s.size = 8) : upTo s 5 = upTo s 4 := up_mid _ (len8 s hs)
theorem upTo_end (s : ByteArray) (hs : s.size = 8) : upTo s 8 = l4 s ++ l3 s := by
  unfold l4 l3
  have e4 := ext4 s.data.toList (len8 s hs)
  have e3 := ext3 s.data.toList (len8 s hs)
  exact (up_end _ (len8 s hs)).trans (by rw [← e4, ← e3])
theorem l4_length (s : ByteArray) (hs : s.size = 8) : (l4 s).length = 4 := by simp [l4, hs]
theorem l3_length (s : ByteArray) (hs : s.size = 8) : (l3 s).length = 3 := by simp [l3, hs]
theorem foldl_app : ∀ (l : List UInt8) (a : Nat), l.foldl (fun n c => n * 10 + (c.toNat - 48)) a = a * 10 ^ l.length + val l
  | [], a => by simp [val]
  | c :: l, a => by
    have h1 := foldl_app l (a * 10 + (c.toNat - 48))
    have h2 := foldl_app l (0 * 10 + (c.toNat - 48))
    have e : val (c :: l) = (0 * 10 + (c.toNat - 48)) * 10 ^ l.length + val l := h2
    rw [List.foldl_cons, h1, e, List.length_cons, Nat.pow_succ, Nat.add_mul, Nat.zero_mul, Nat.zero_add, Nat.mul_comm (10 ^ l.length) 10, ← Nat.mul_assoc, Nat.add_assoc]
theorem val_app (a b : List UInt8) : val (a ++ b) = val a * 10 ^ b.length + val b := by
  have := foldl_app b (val a)
  rw [val, List.foldl_append]
  exact this
theorem allDig_app (a b : List UInt8) : allDig (a ++ b) = (allDig a && allDig b) := by simp [allDig]
theorem upTo_len (s : ByteArray) (k : Nat) : (upTo s k).length ≤ k := by
  unfold upTo up
  rw [List.length_append, List.length_take, List.length_drop]
  have := List.length_take_le k s.data.toList
  omega

/-- What the reference answers at a text of eight bytes with a hyphen at its place. -/
def refAns (s : ByteArray) : Value :=
  if allDig (l4 s) && allDig (l3 s) then (if inB (val (l4 s)) (val (l3 s)) then .tuple #[.int .i64 (fy (val (l4 s)) + (val (l3 s) : Int) - 1), .int .i64 0] else .tuple #[.int .i64 0, .int .i64 3]) else .tuple #[.int .i64 0, .int .i64 2]
theorem bad_at (s : ByteArray) (k : Nat) (hs : s.size = 8) (hk : k < 8) (h4 : k ≠ 4) (h : isDig s[k] = false) : (allDig (l4 s) && allDig (l3 s)) = false := by
  rw [← allDig_app, ← upTo_end s hs]
  cases hc : allDig (upTo s 8)
  · rfl
  · exfalso
    have hall : ∀ x ∈ upTo s 8, isDig x = true := List.all_eq_true.1 hc
    have hm : s[k] ∈ upTo s 8 := up_mem s.data.toList k (len8 s hs) hk h4
    rw [hall _ hm] at h
    cases h

theorem refParse_size (s : ByteArray) (w : World) (h : s.size ≠ 8) :
    Calls Tryd.prog 20 #[.string s] w fun e w' => e = .returned (.tuple #[.int .i64 0, .int .i64 2]) ∧ w' = w := by
  have h1 : ((s.size : Int) == 8) = false := by rw [beq_eq_false_iff_ne]; omega
  have h2 : ¬ ((s.size : Int) = 8) := by omega
  clear h
  go_enter Tryd.func20, Tryd.ntmps20
  go_wp2
  go_ret2
  exact ⟨rfl, rfl⟩
theorem refParse_dash (s : ByteArray) (w : World) (hs : s.size = 8) (h : ¬ ((s[4].toNat : Int) = 45)) :
    Calls Tryd.prog 20 #[.string s] w fun e w' => e = .returned (.tuple #[.int .i64 0, .int .i64 2]) ∧ w' = w := by
  go_enter Tryd.func20, Tryd.ntmps20
  go_wp2
  go_ret2
  exact ⟨rfl, rfl⟩

set_option maxHeartbeats 800000 in
theorem refParse_any (s : ByteArray) (w : World) (hs : s.size = 8) (hc : (s[4].toNat : Int) = 45) :
    Calls Tryd.prog 20 #[.string s] w fun e w' => e = .returned (refAns s) ∧ w' = w := by
  go_enter Tryd.func20, Tryd.ntmps20
  go_wp2
  have HS8 := Lib.hid hs
  go_loop [4, 5] (fun n i => ∃ k : Nat, k ≤ 8 ∧ i = .int .i64 k ∧ n = .int .i64 (val (upTo s k)) ∧ allDig (upTo s k) = true) (fun _ i => 8 - (intOf i).toNat)
  case atStart => exact ⟨0, Nat.zero_le _, rfl, rfl, rfl⟩
  case round =>
    obtain ⟨k, hk, rfl, rfl, had⟩ := hrel
    have HD := Lib.hid had
    have hvl := val_lt _ had
    have hlen := upTo_len s k
    have hv : val (upTo s k) < 100000000 := by
      have := Nat.pow_le_pow_right (n := 10) (by omega) (show (upTo s k).length ≤ 8 by omega)
      omega
    clear hvl had hlen
    by_cases h4 : k = 4
    · subst h4
      have HM := Lib.hid (upTo_mid s hs)
      go_wp2
      go_round
      case rel => exact ⟨5, by omega, rfl, by rw [HM.out], by rw [HM.out]; exact HD.out⟩
      case measure => simp [intOf]
    · by_cases hlt : k < 8
      · have HT : Hid (upTo s (k + 1) = upTo s k ++ [s[k]]) := Lib.hid (upTo_step s k hs hlt h4)
        have HV := Lib.hid (val_snoc (upTo s k) s[k])
        have HA := Lib.hid (allDig_snoc (upTo s k) s[k])
        have hne : ((k : Int) == 4) = false := by rw [beq_eq_false_iff_ne]; omega
        by_cases h48 : (s[k].toNat : Int) < 48
        · have HB := Lib.hid (bad_at s k hs hlt h4 (by unfold isDig; rw [decide_eq_false_iff_not]; omega))
          go_wp2
          go_ret2
          exact ⟨by unfold refAns; rw [HB.out]; rfl, rfl⟩
        · by_cases h57 : 57 < (s[k].toNat : Int)
          · have HB := Lib.hid (bad_at s k hs hlt h4 (by unfold isDig; rw [decide_eq_false_iff_not]; omega))
            go_wp2
            go_ret2
            exact ⟨by unfold refAns; rw [HB.out]; rfl, rfl⟩
          · go_wp2
            go_round
            case rel => exact ⟨k + 1, by omega, by go_num, by rw [HT.out, HV.out]; congr 1; push_cast; omega, by rw [HT.out, HA.out, HD.out]; unfold isDig; simp only [Bool.true_and, decide_eq_true_eq]; omega⟩
            case measure => simp [intOf]; omega
      · obtain rfl : k = 8 := by omega
        have he := upTo_end s hs
        have hb8 := hv
        rw [he] at HD hv
        have hd : (allDig (l4 s) && allDig (l3 s)) = true := by rw [← allDig_app]; exact HD.out
        have hd' : allDig (l4 s) = true ∧ allDig (l3 s) = true := by simpa using hd
        have v4 := val_lt _ hd'.1
        have v3 := val_lt _ hd'.2
        rw [l4_length s hs] at v4
        rw [l3_length s hs] at v3
        have ev : val (upTo s 8) = val (l4 s) * 1000 + val (l3 s) := by rw [he, val_app, l3_length s hs]
        have HR : Hid (refAns s = if inB (val (l4 s)) (val (l3 s)) then .tuple #[.int .i64 (fy (val (l4 s)) + (val (l3 s) : Int) - 1), .int .i64 0] else .tuple #[.int .i64 0, .int .i64 3]) := Lib.hid (by unfold refAns; rw [hd]; rfl)
        have EV := Lib.hid ev
        clear he hd hd' ev HD hv hk h4
        generalize val (l4 s) = Y at v4 HR EV
        generalize val (l3 s) = M at v3 HR EV
        generalize val (upTo s 8) = N at EV hb8 ⊢
        have HAt : Hid (∀ W, Calls Tryd.prog 35 #[.int .i64 ((N : Int) / 1000), .int .i64 ((N : Int) % 1000)] W fun e w' => e = .returned (.tuple #[.int .i64 (if inB Y M then fy Y + M - 1 else 0), .bool (inB Y M)]) ∧ w' = W) := Lib.hid fun W => by
          have e := EV.out
          rw [show (N : Int) / 1000 = Y by omega, show (N : Int) % 1000 = M by omega]
          exact at_any Y M W (by omega) (by omega)
        cases hi : inB Y M
        all_goals
          have HI := Lib.hid hi
          clear hi
          rw [HI.out] at HR HAt
          go_wp2_with (go_at_call 35; refine (HAt.out _).mono ?_; rintro e w' ⟨rfl, rfl⟩)
          go_ret2
          exact ⟨by rw [HR.out]; rfl, rfl⟩
end Go.Proofs.YtagapapnpefckaaDoor
