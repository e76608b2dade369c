/-
  LabelBetween: the law returns true for every two strings.
-/
import Derived.Test.YtbjdfghakhplnaaDoorRb
namespace Go.Proofs.YtbjdfghakhplnaaDoor
open Go.RowKit (wrap32 wrap64 intOf Hid Below)
open Lab

set_option maxHeartbeats 2000000 in
theorem lawBetween {a0 a1 : ByteArray} {w : World} (hT : Tab w) :
    Calls Tryd.prog 6 #[.string a0, .string a1] w fun e w' => e = .returned (.bool true) ∧ Below w.heap.size w w' := by
  have HA := Lib.hid (awake_c w hT)
  have hb0 := Below.refl w.heap.size w
  by_cases c0 : a0.size > 100
  · clear hT
    go_enter Tryd.func6, Tryd.ntmps6
    go_wp2_with (go_at_call 10; ((with_reducible refine (HA.out _ (by assumption)).mono ?_); rintro e w1 ⟨rfl, hb1⟩))
    go_ret
    exact ⟨rfl, hb1⟩
  by_cases c1 : a1.size > 100
  · clear hT
    go_enter Tryd.func6, Tryd.ntmps6
    go_wp2_with (go_at_call 10; ((with_reducible refine (HA.out _ (by assumption)).mono ?_); rintro e w1 ⟨rfl, hb1⟩))
    go_ret
    exact ⟨rfl, hb1⟩
  have HB := Lib.hid (between_c a0 a1 w hT (by omega) (by omega))
  have HR : Hid (∀ W, Calls Tryd.prog 20 #[.string a0, .string a1] W fun e w' => RbRet a0.data.toList a1.data.toList e ∧ Below W.heap.size W w') := Lib.hid fun W => refbetween_any a0 a1 W (by omega) (by omega)
  have hE0 := str_eq ⟨#[]⟩ ⟨#[]⟩
  rw [decide_eq_true rfl] at hE0
  clear hT
  go_enter Tryd.func6, Tryd.ntmps6
  go_wp2_with fail
  with_reducible refine (HA.out _ (by assumption)).mono ?_
  rintro e w1 ⟨rfl, hb1⟩
  go_wp2_with fail
  with_reducible refine (HB.out _ (by assumption)).mono ?_
  rintro e w2 ⟨⟨R, hR, rfl⟩, hb2⟩
  cases R with
  | none =>
    unfold btV
    simp only
    go_wp2_with fail
    with_reducible refine (HR.out _).mono ?_
    rintro e w3 ⟨⟨R, hR2, rfl⟩, hb3⟩
    obtain rfl := hR.unique hR2
    unfold rbV
    simp only
    clear hR hR2
    go_wp2
    go_ret
    exact ⟨by first | rfl | (apply ret_bool; simp), hb2.trans (hb3.mono hb2.size)⟩
  | some p =>
    obtain ⟨q, f⟩ := p
    unfold btV
    simp only
    go_wp2_with fail
    with_reducible refine (HR.out _).mono ?_
    rintro e w3 ⟨⟨R, hR2, rfl⟩, hb3⟩
    obtain rfl := hR.unique hR2
    unfold rbV
    simp only
    clear hR hR2
    have hT1 := str_eq (mk (txt q f)) (mk (txt q f))
    rw [decide_eq_true rfl] at hT1
    have hT3 : (mk (txt q f)).toList.isEmpty = false := txt_full
    have hT2 := str_eq (mk (txt q f)) ⟨#[]⟩
    rw [decide_eq_false txt_ne] at hT2
    obtain ⟨T, hTT⟩ : ∃ T, T = mk (txt q f) := ⟨_, rfl⟩
    rw [← hTT] at hT1 hT2 hT3 ⊢
    clear hTT
    go_wp2
    go_ret
    exact ⟨by first | rfl | (apply ret_bool; simp), hb2.trans (hb3.mono hb2.size)⟩
end Go.Proofs.YtbjdfghakhplnaaDoor
