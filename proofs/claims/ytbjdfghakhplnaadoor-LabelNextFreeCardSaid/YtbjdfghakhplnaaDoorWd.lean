/-
  The contracts of Compare, the program's and the reference's.
-/
import Derived.Test.YtbjdfghakhplnaaDoorWc
namespace Go.Proofs.YtbjdfghakhplnaaDoor
open Go.RowKit (wrap32 wrap64 intOf Hid Below)
open Lab

theorem str_eq (a b : ByteArray) : (a.toList == b.toList) = decide (a = b) := by
  rw [Bool.eq_iff_iff, beq_iff_eq, decide_eq_true_eq]
  constructor
  · intro h
    rw [ByteArray.toList_eq, ByteArray.toList_eq] at h
    cases a; cases b
    simpa using h
  · rintro rfl; rfl
theorem isnan_any (x : ByteArray) (w : World) : Calls Tryd.prog 42 #[.string x] w fun e w' => e = .returned (.bool false) ∧ w = w' := by
  go_enter Tryd.func42, Tryd.ntmps42
  go_wp2
  go_ret
  exact ⟨by first | rfl | simp, rfl⟩
theorem cmps_any (x y : ByteArray) (w : World) : Calls Tryd.prog 32 #[.string x, .string y] w fun e w' => e = .returned (.int .i64 (cmpB x.data.toList y.data.toList)) ∧ w = w' := by
  have hE := str_eq x y
  have hL : Op.bytesLess x.toList y.toList = Op.bytesLess x.data.toList y.data.toList := by rw [ByteArray.toList_eq, ByteArray.toList_eq]
  have HN := Lib.hid (fun (x : ByteArray) => isnan_any x w)
  cases hl : Op.bytesLess x.data.toList y.data.toList with
  | true =>
    rw [hl] at hL
    have HC : Hid (cmpB x.data.toList y.data.toList = -1) := Lib.hid (by unfold cmpB; rw [if_pos hl])
    clear hE hl
    go_enter Tryd.func32, Tryd.ntmps32
    go_wp2_with (go_at_call 42; ((with_reducible refine (HN.out _).mono ?_); rintro e w' ⟨rfl, rfl⟩))
    go_ret
    exact ⟨ret_int HC.out.symm, rfl⟩
  | false =>
    rw [hl] at hL
    by_cases he : x = y
    · have HC : Hid (cmpB x.data.toList y.data.toList = 0) := Lib.hid (by unfold cmpB; rw [if_neg (by rw [hl]; simp), if_pos (by rw [he])])
      rw [decide_eq_true he] at hE
      clear hl he
      go_enter Tryd.func32, Tryd.ntmps32
      go_wp2_with (go_at_call 42; ((with_reducible refine (HN.out _).mono ?_); rintro e w' ⟨rfl, rfl⟩))
      go_ret
      exact ⟨ret_int HC.out.symm, rfl⟩
    · have HC : Hid (cmpB x.data.toList y.data.toList = 1) := Lib.hid (by
        unfold cmpB
        rw [if_neg (by rw [hl]; simp), if_neg]
        intro hh
        exact he (by rw [eq_mk (a := x) rfl, eq_mk (a := y) rfl, hh]))
      rw [decide_eq_false he] at hE
      clear hl he
      go_enter Tryd.func32, Tryd.ntmps32
      go_wp2_with (go_at_call 42; ((with_reducible refine (HN.out _).mono ?_); rintro e w' ⟨rfl, rfl⟩))
      go_ret
      exact ⟨ret_int HC.out.symm, rfl⟩
theorem cmpi_any (x y : Nat) (w : World) : Calls Tryd.prog 34 #[.int .i64 (x : Int), .int .i64 (y : Int)] w fun e w' => e = .returned (.int .i64 (cmpN x y)) ∧ w = w' :=
  (Tryd.cmp_Compare_int (x : Int) (y : Int) w).mono fun _ _ ⟨he, hw⟩ => ⟨by
    rw [he]
    apply ret_int
    unfold Lib.compareInt cmpN
    repeat' split
    all_goals first | rfl | omega, hw.symm⟩
set_option maxHeartbeats 1000000 in
theorem or_two (x y R : Int) (hR : R = if x = 0 then y else x) (g : Nat) (w : World) (h0 : w.cell? ⟨g, 0, none⟩ = some (.int .i64 x)) (h1 : w.cell? ⟨g, 1, none⟩ = some (.int .i64 y)) :
    Calls Tryd.prog 33 #[.slice (some ⟨g, 0, none⟩) 2 2] w fun e w' => e = .returned (.int .i64 R) ∧ w = w' := by
  by_cases hx : x = 0
  · subst hx
    have HR : Hid (R = y) := Lib.hid (by rw [hR, if_pos rfl])
    clear hR
    by_cases hy : y = 0
    · subst hy
      go_enter Tryd.func33, Tryd.ntmps33
      go_wp2
      go_loop [8] (fun i => ∃ k : Nat, k ≤ 2 ∧ i = .int .i64 k) (fun i => 2 - (intOf i).toNat)
      case atStart => exact ⟨0, by omega, rfl⟩
      case round =>
        obtain ⟨k, hk, rfl⟩ := hrel
        rcases (by omega : k = 0 ∨ k = 1 ∨ k = 2) with rfl | rfl | rfl
        · go_wp2
          go_round
          case rel => exact ⟨1, by omega, by go_num⟩
          case measure => simp [intOf]
        · go_wp2
          go_round
          case rel => exact ⟨2, by omega, by go_num⟩
          case measure => simp [intOf]
        · go_wp2
          go_ret
          exact ⟨ret_int HR.out.symm, rfl⟩
    · have ey : (y != 0) = true := by simpa using hy
      have ey2 : (y == 0) = false := by simpa using hy
      clear hy
      go_enter Tryd.func33, Tryd.ntmps33
      go_wp2
      go_loop [8] (fun i => ∃ k : Nat, k ≤ 1 ∧ i = .int .i64 k) (fun i => 2 - (intOf i).toNat)
      case atStart => exact ⟨0, by omega, rfl⟩
      case round =>
        obtain ⟨k, hk, rfl⟩ := hrel
        rcases (by omega : k = 0 ∨ k = 1) with rfl | rfl
        · go_wp2
          go_round
          case rel => exact ⟨1, by omega, by go_num⟩
          case measure => simp [intOf]
        · go_wp2
          go_ret
          exact ⟨ret_int HR.out.symm, rfl⟩
  · have HR : Hid (R = x) := Lib.hid (by rw [hR, if_neg hx])
    clear hR
    have ex : (x != 0) = true := by simpa using hx
    have ex2 : (x == 0) = false := by simpa using hx
    clear hx
    go_enter Tryd.func33, Tryd.ntmps33
    go_wp2
    go_loop [8] (fun i => ∃ k : Nat, k ≤ 0 ∧ i = .int .i64 k) (fun i => 2 - (intOf i).toNat)
    case atStart => exact ⟨0, by omega, rfl⟩
    case round =>
      obtain ⟨k, hk, rfl⟩ := hrel
      obtain rfl : k = 0 := by omega
      go_wp2
      go_ret
      exact ⟨ret_int HR.out.symm, rfl⟩

/-- What a comparison of two labels comes to. -/
theorem comp_both {a b : Bs} (ha : mayL a = true) (hb : mayL b = true) : compL a b = if cmpN (splitL a).1 (splitL b).1 = 0 then cmpB (splitL a).2 (splitL b).2 else cmpN (splitL a).1 (splitL b).1 := by
  have h1 := (may_ok ha).1.1
  have h2 := (may_ok hb).1.1
  unfold compL
  rw [if_neg (by omega), if_neg (by omega), if_neg (by omega)]
  by_cases h : (splitL a).1 = (splitL b).1
  · rw [if_pos h, if_pos]
    unfold cmpN
    rw [if_neg (by omega), if_pos h]
  · rw [if_neg h, if_neg]
    unfold cmpN
    split
    · omega
    · omega
theorem comp_bad {a b : Bs} (ha : mayL a = false) (hb : mayL b = false) : compL a b = cmpB a b := by
  unfold compL
  rw [if_pos ⟨(split_zero a).2 ha, (split_zero b).2 hb⟩]
theorem comp_left {a b : Bs} (ha : mayL a = false) (hb : mayL b = true) : compL a b = 1 := by
  have h2 := (may_ok hb).1.1
  unfold compL
  rw [if_neg (by rw [(split_zero a).2 ha]; omega), if_pos ((split_zero a).2 ha)]
theorem comp_right {a b : Bs} (ha : mayL a = true) (hb : mayL b = false) : compL a b = -1 := by
  have h2 := (may_ok ha).1.1
  unfold compL
  rw [if_neg (by rw [(split_zero b).2 hb]; omega), if_neg (by omega), if_pos ((split_zero b).2 hb)]

theorem new_two (w : World) (x y : Value) (t : TypeId) : (w.alloc (.cells #[x, y] t)).cell? ⟨w.heap.size, 0, none⟩ = some x ∧ (w.alloc (.cells #[x, y] t)).cell? ⟨w.heap.size, 1, none⟩ = some y :=
  ⟨by rw [World.cell?_alloc_at _ _ _ _ rfl]; rfl, by rw [World.cell?_alloc_at _ _ _ _ rfl]; rfl⟩
theorem alloc_below (w : World) (o : Obj) : Below w.heap.size w (w.alloc o) := (Below.refl _ _).alloc (Nat.le_refl _) o
set_option maxHeartbeats 2000000 in
theorem compare_any (a b : ByteArray) (w : World) (hT : Tab w) (ha : a.size ≤ 1000000) (hb : b.size ≤ 1000000) :
    Calls Tryd.prog 15 #[.string a, .string b] w fun e w' => e = .returned (.int .i64 (compL a.data.toList b.data.toList)) ∧ Below w.heap.size w w' := by
  have HSa := Lib.hid (split_any a w hT ha)
  have HSb : Hid (∀ W, Below w.heap.size w W → Calls Tryd.prog 11 #[.string b] W fun e w' => e = .returned (spV b.data.toList) ∧ Below w.heap.size w w') := Lib.hid fun W h =>
    (split_any b W (hT.below h) hb).mono fun _ _ ⟨he, h2⟩ => ⟨he, h.trans (h2.mono h.size)⟩
  unfold spV at HSa HSb
  clear hT
  obtain ⟨n, hn⟩ : ∃ n, n = (splitL a.data.toList).1 := ⟨_, rfl⟩
  obtain ⟨m, hm⟩ : ∃ m, m = (splitL b.data.toList).1 := ⟨_, rfl⟩
  obtain ⟨c, hc⟩ : ∃ c, c = (splitL a.data.toList).2 := ⟨_, rfl⟩
  obtain ⟨d, hd⟩ : ∃ d, d = (splitL b.data.toList).2 := ⟨_, rfl⟩
  cases xa : mayL a.data.toList with
  | false =>
    have n0 : n = 0 := hn.trans ((split_zero _).2 xa)
    cases xb : mayL b.data.toList with
    | false =>
      have m0 : m = 0 := hm.trans ((split_zero _).2 xb)
      have HC := Lib.hid (comp_bad xa xb)
      have HCm := Lib.hid (fun W => cmps_any a b W)
      rw [← hn, n0, ← hc] at HSa
      rw [← hm, m0, ← hd] at HSb
      clear hn hm hc hd n0 m0 xa xb
      go_enter Tryd.func15, Tryd.ntmps15
      go_wp2_with fail
      with_reducible refine (HSa.out).mono ?_
      rintro e w1 ⟨rfl, hb1⟩
      go_wp2_with (first
        | (go_at_call 11; ((with_reducible refine (HSb.out _ hb1).mono ?_); rintro e w2 ⟨rfl, hb2⟩))
        | (go_at_call 32; ((with_reducible refine (HCm.out _).mono ?_); rintro e w3 ⟨rfl, rfl⟩)))
      go_ret
      exact ⟨ret_int HC.out.symm, hb2⟩
    | true =>
      have m0 : 0 < m := by have := (may_ok xb).1.1; omega
      have em : ((m : Int) == 0) = false := by rw [beq_eq_false_iff_ne]; omega
      have HC := Lib.hid (comp_left xa xb)
      rw [← hn, n0, ← hc] at HSa
      rw [← hm, ← hd] at HSb
      clear hn hm hc hd n0 xa xb
      go_enter Tryd.func15, Tryd.ntmps15
      go_wp2_with fail
      with_reducible refine (HSa.out).mono ?_
      rintro e w1 ⟨rfl, hb1⟩
      go_wp2_with (go_at_call 11; ((with_reducible refine (HSb.out _ hb1).mono ?_); rintro e w2 ⟨rfl, hb2⟩))
      go_ret
      exact ⟨ret_int HC.out.symm, hb2⟩
  | true =>
    have n0 : 0 < n := by have := (may_ok xa).1.1; omega
    have en : ((n : Int) == 0) = false := by rw [beq_eq_false_iff_ne]; omega
    cases xb : mayL b.data.toList with
    | false =>
      have m0 : m = 0 := hm.trans ((split_zero _).2 xb)
      have HC := Lib.hid (comp_right xa xb)
      rw [← hn, ← hc] at HSa
      rw [← hm, m0, ← hd] at HSb
      clear hn hm hc hd m0 xa xb
      go_enter Tryd.func15, Tryd.ntmps15
      go_wp2_with fail
      with_reducible refine (HSa.out).mono ?_
      rintro e w1 ⟨rfl, hb1⟩
      go_wp2_with (go_at_call 11; ((with_reducible refine (HSb.out _ hb1).mono ?_); rintro e w2 ⟨rfl, hb2⟩))
      go_ret
      exact ⟨ret_int HC.out.symm, hb2⟩
    | true =>
      have m0 : 0 < m := by have := (may_ok xb).1.1; omega
      have em : ((m : Int) == 0) = false := by rw [beq_eq_false_iff_ne]; omega
      have HC := Lib.hid (comp_both xa xb)
      rw [← hn, ← hc] at HSa
      rw [← hm, ← hd] at HSb
      rw [← hn, ← hm, ← hc, ← hd] at HC
      have HCi := Lib.hid (fun W => cmpi_any n m W)
      have HCs := Lib.hid (fun W => cmps_any (mk c) (mk d) W)
      rw [mk_list, mk_list] at HCs
      have HOr : Hid (∀ W, Calls Tryd.prog 33 #[.slice (some ⟨W.heap.size, 0, none⟩) 2 2] (W.alloc (.cells #[.int .i64 (cmpN n m), .int .i64 (cmpB c d)] 3)) fun e w' => e = .returned (.int .i64 (if cmpN n m = 0 then cmpB c d else cmpN n m)) ∧ Below W.heap.size W w') := Lib.hid fun W =>
        (or_two (cmpN n m) (cmpB c d) _ rfl W.heap.size _ (new_two W _ _ _).1 (new_two W _ _ _).2).mono fun _ _ ⟨he, hw⟩ => ⟨he, by rw [← hw]; exact alloc_below W _⟩
      rw [HC.out]
      clear hn hm hc hd xa xb
      obtain ⟨R, hR⟩ : ∃ R, R = if cmpN n m = 0 then cmpB c d else cmpN n m := ⟨_, rfl⟩
      rw [← hR] at HOr ⊢
      generalize cmpN n m = U at *
      generalize cmpB c d = V at *
      clear hR HC
      go_enter Tryd.func15, Tryd.ntmps15
      go_wp2_with fail
      with_reducible refine (HSa.out).mono ?_
      rintro e w1 ⟨rfl, hb1⟩
      go_wp2_with (first
        | (go_at_call 11; ((with_reducible refine (HSb.out _ hb1).mono ?_); rintro e w2 ⟨rfl, hb2⟩))
        | (go_at_call 34; ((with_reducible refine (HCi.out _).mono ?_); rintro e w3 ⟨rfl, rfl⟩))
        | (go_at_call 32; ((with_reducible refine (HCs.out _).mono ?_); rintro e w3 ⟨rfl, rfl⟩))
        | (go_at_call 33; ((with_reducible refine (HOr.out _).mono ?_); rintro e w4 ⟨rfl, hb4⟩)))
      go_ret
      exact ⟨rfl, hb2.trans (hb4.mono hb2.size)⟩
end Go.Proofs.YtbjdfghakhplnaaDoor
