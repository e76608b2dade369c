/-
  LabelSplit: the law returns true for every string.
-/
import Derived.Test.YtbjdfghakhplnaaDoorWj
namespace Go.Proofs.YtbjdfghakhplnaaDoor
open Go.RowKit (wrap32 wrap64 intOf Hid Below)
open Lab

theorem drew_c {w W w' : World} (h : Below w.heap.size w W) (hd : ∃ q, w' = W.drewN q) : Below w.heap.size w w' := h.trans ((drew_below hd).mono h.size)
theorem split_c (s : ByteArray) (w : World) (hT : Tab w) (hs : s.size ≤ 1000000) : ∀ W, Below w.heap.size w W → Calls Tryd.prog 11 #[.string s] W fun e w' => e = .returned (.tuple #[.int .i64 ((splitL s.data.toList).1 : Nat), .string (mk (splitL s.data.toList).2)]) ∧ Below w.heap.size w w' := fun W h =>
  (split_any s W (hT.below h) hs).mono fun _ _ ⟨he, h2⟩ => ⟨he, h.trans (h2.mono h.size)⟩
theorem refsplit_c (s : ByteArray) (w : World) (hs : s.size ≤ 1000000) : ∀ W, Below w.heap.size w W → Calls Tryd.prog 12 #[.string s] W fun e w' => e = .returned (.tuple #[.int .i64 ((splitL s.data.toList).1 : Nat), .string (mk (splitL s.data.toList).2)]) ∧ Below w.heap.size w w' := fun W h =>
  (refsplit_any s W hs).mono fun _ _ ⟨he, h2⟩ => ⟨he, drew_c h h2⟩
theorem valid_c (s : ByteArray) (w : World) (hT : Tab w) (hs : s.size ≤ 1000000) : ∀ W, Below w.heap.size w W → Calls Tryd.prog 13 #[.string s] W fun e w' => e = .returned (.bool (mayL s.data.toList)) ∧ Below w.heap.size w w' := fun W h =>
  (valid_any s W (hT.below h) hs).mono fun _ _ ⟨he, h2⟩ => ⟨he, h.trans (h2.mono h.size)⟩
theorem compare_c (a b : ByteArray) (w : World) (hT : Tab w) (ha : a.size ≤ 1000000) (hb : b.size ≤ 1000000) : ∀ W, Below w.heap.size w W → Calls Tryd.prog 15 #[.string a, .string b] W fun e w' => e = .returned (.int .i64 (compL a.data.toList b.data.toList)) ∧ Below w.heap.size w w' := fun W h =>
  (compare_any a b W (hT.below h) ha hb).mono fun _ _ ⟨he, h2⟩ => ⟨he, h.trans (h2.mono h.size)⟩
theorem refcompare_c (a b : ByteArray) (w : World) (ha : a.size ≤ 1000000) (hb : b.size ≤ 1000000) : ∀ W, Below w.heap.size w W → Calls Tryd.prog 16 #[.string a, .string b] W fun e w' => e = .returned (.int .i64 (compL a.data.toList b.data.toList)) ∧ Below w.heap.size w w' := fun W h =>
  (refcompare_any a b W ha hb).mono fun _ _ ⟨he, h2⟩ => ⟨he, h.trans (h2.mono h.size)⟩

set_option maxHeartbeats 1000000 in
theorem lawSplit {a0 : ByteArray} {w : World} (hT : Tab w) :
    Calls Tryd.prog 3 #[.string a0] w fun e w' => e = .returned (.bool true) ∧ Below w.heap.size w w' := by
  have HA := Lib.hid (awake_c w hT)
  have hb0 := Below.refl w.heap.size w
  by_cases c1 : a0.size > 1000
  · clear hT
    go_enter Tryd.func3, Tryd.ntmps3
    go_wp2_with fail
    with_reducible refine (HA.out _ hb0).mono ?_
    rintro e w1 ⟨rfl, hb1⟩
    go_wp2_with fail
    with_reducible refine (HA.out _ hb1).mono ?_
    rintro e w2 ⟨rfl, hb2⟩
    go_wp2_with fail
    go_ret
    exact ⟨rfl, hb2⟩
  · have HS := Lib.hid (split_c a0 w hT (by omega))
    have HR := Lib.hid (refsplit_c a0 w (by omega))
    have HV := Lib.hid (valid_c a0 w hT (by omega))
    have HM : Hid (∀ W, Calls Tryd.prog 14 #[.string a0] W fun e w' => e = .returned (.bool (mayL a0.data.toList)) ∧ W = w') := Lib.hid fun W => may_any a0 W (by omega)
    obtain ⟨n, hn⟩ : ∃ n, n = (splitL a0.data.toList).1 := ⟨_, rfl⟩
    obtain ⟨c, hc⟩ : ∃ c, c = mk (splitL a0.data.toList).2 := ⟨_, rfl⟩
    obtain ⟨b, hbb⟩ : ∃ b, b = mayL a0.data.toList := ⟨_, rfl⟩
    rw [← hn, ← hc] at HS HR
    rw [← hbb] at HV HM
    clear hT hn hc hbb
    have hE := str_eq c c
    rw [decide_eq_true rfl] at hE
    go_enter Tryd.func3, Tryd.ntmps3
    go_wp2_with fail
    with_reducible refine (HA.out _ hb0).mono ?_
    rintro e w1 ⟨rfl, hb1⟩
    go_wp2_with fail
    with_reducible refine (HS.out _ hb1).mono ?_
    rintro e w2 ⟨rfl, hb2⟩
    go_wp2_with fail
    with_reducible refine (HR.out _ hb2).mono ?_
    rintro e w3 ⟨rfl, hb3⟩
    go_wp2_with fail
    with_reducible refine (HV.out _ hb3).mono ?_
    rintro e w4 ⟨rfl, hb4⟩
    go_wp2_with fail
    with_reducible refine (HM.out _).mono ?_
    rintro e w5 ⟨rfl, rfl⟩
    cases b
    · go_wp2_with fail
      go_ret
      exact ⟨by first | rfl | (apply ret_bool; simp [hE]), hb4⟩
    · go_wp2_with fail
      go_ret
      exact ⟨by first | rfl | (apply ret_bool; simp [hE]), hb4⟩
end Go.Proofs.YtbjdfghakhplnaaDoor
