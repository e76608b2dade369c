/-
  Units without an ID: unnumbered; unmarked units.
-/
import Derived.Test.YtcacnelhppakoaaDoorWdc
namespace Go.Proofs.YtcacnelhppakoaaDoor
open Go.RowKit (wrap32 wrap64 intOf Hid Below)
open Lab Lcs

set_option maxHeartbeats 4000000 in
set_option maxRecDepth 100000 in
theorem zeroid_any (u : Ut) (v : Value) (w : World) (hV : UtV w u v) :
    Calls Tryd.prog 124 #[v] w fun e w' => e = .returned (.bool (decide (u.id = .zero))) ∧ Below w.heap.size w w' := by
  cases u with
  | mk id kind label head words kids =>
    obtain ⟨Ah, Aw, Ak, nh, ch, nw, cw, nk, ck, rfl, hok, hWh, hWw, hR⟩ := hV.open_
    obtain ⟨ix, iy, iz⟩ := id
    have hb0 := alloc_below w (.cells #[.int .i64 ix, .int .i64 iy, .int .i64 iz, .int .i64 kind, .string label, .slice Ah nh ch, .slice Aw nw cw, .slice Ak nk ck] 27)
    obtain ⟨n0, n1, n2, n3, n4, n5, n6, n7⟩ := Box8.new w 27 (.int .i64 ix) (.int .i64 iy) (.int .i64 iz) (.int .i64 kind) (.string label) (.slice Ah nh ch) (.slice Aw nw cw) (.slice Ak nk ck)
    have HB0 := Lib.hid hb0
    clear hR hV hok hWh hWw hb0
    show Calls Tryd.prog 124 _ w _
    by_cases hz : (⟨ix, iy, iz⟩ : Trip) = .zero
    · have HE : Hid (decide ((Ut.mk ⟨ix, iy, iz⟩ kind label head words kids).id = .zero) = true) := Lib.hid (decide_eq_true hz)
      unfold Trip.zero at hz
      obtain ⟨rfl, rfl, rfl⟩ : ix = 0 ∧ iy = 0 ∧ iz = 0 := by simpa using hz
      clear hz
      go_enter Tryd.func124, Tryd.ntmps124
      go_wp2
      go_ret
      exact ⟨ret_bool HE.out.symm, HB0.out⟩
    · have HE : Hid (decide ((Ut.mk ⟨ix, iy, iz⟩ kind label head words kids).id = .zero) = false) := Lib.hid (decide_eq_false hz)
      rcases trip_part hz with h | ⟨rfl, h⟩ | ⟨rfl, rfl, h⟩
      all_goals
        clear hz
        go_enter Tryd.func124, Tryd.ntmps124
        go_wp2
        go_ret
        exact ⟨ret_bool HE.out.symm, HB0.out⟩
theorem zero_tests (w : World) : Tests 124 #[] (fun x => decide (x.id = .zero)) (fun _ => True) w := fun x v W _ _ hV => zeroid_any x v W hV
theorem zero_enters : ∀ args w, (callFunc 124 args).run Tryd.prog w = .ok (.enter 124 args) w := Go.Proofs.enters_of Tryd.func124 (by kernel_rfl) rfl
set_option maxHeartbeats 4000000 in
set_option maxRecDepth 100000 in
theorem unnumbered_any (u : Ut) (v : Value) (w : World) (hV : UtV w u v) :
    Calls Tryd.prog 77 #[v] w fun e w' => e = .returned (.bool (zeroIds u)) ∧ Below w.heap.size w w' := by
  have hV0 := hV
  cases u with
  | mk id kind label head words kids =>
    obtain ⟨Ah, Aw, Ak, nh, ch, nw, cw, nk, ck, rfl, hok, hWh, hWw, hR⟩ := hV.open_
    have hb0 := alloc_below w (.cells #[.int .i64 id.x, .int .i64 id.y, .int .i64 id.z, .int .i64 kind, .string label, .slice Ah nh ch, .slice Aw nw cw, .slice Ak nk ck] 27)
    have HB0 := Lib.hid hb0
    obtain ⟨n0, n1, n2, n3, n4, n5, n6, n7⟩ := Box8.new w 27 (.int .i64 id.x) (.int .i64 id.y) (.int .i64 id.z) (.int .i64 kind) (.string label) (.slice Ah nh ch) (.slice Aw nw cw) (.slice Ak nk ck)
    have HE := Lib.hid (every_any 124 #[] zero_enters (fun x => decide (x.id = .zero)) (fun _ => True) _ _ _ _ (Nat.le_refl _) (fun _ _ => trivial) (hV0.below hb0) (zero_tests _))
    clear hR hV hV0 hok hWh hWw hb0
    go_enter Tryd.func77, Tryd.ntmps77
    go_wp2_with fail
    with_reducible refine (HE.out).mono ?_
    rintro e w1 ⟨rfl, hb1⟩
    go_wp2_with fail
    go_ret
    exact ⟨rfl, HB0.out.trans (hb1.mono HB0.out.size)⟩
set_option maxHeartbeats 4000000 in
set_option maxRecDepth 100000 in
theorem plainu_any (u : Ut) (v : Value) (w : World) (hV : UtV w u v) :
    Calls Tryd.prog 78 #[v] w fun e w' => e = .returned (.bool (plainB u)) ∧ Below w.heap.size w w' := by
  cases u with
  | mk id kind label head words kids =>
    obtain ⟨Ah, Aw, Ak, nh, ch, nw, cw, nk, ck, rfl, hok, hWh, hWw, hR⟩ := hV.open_
    have hb0 := alloc_below w (.cells #[.int .i64 id.x, .int .i64 id.y, .int .i64 id.z, .int .i64 kind, .string label, .slice Ah nh ch, .slice Aw nw cw, .slice Ak nk ck] 27)
    have HB0 := Lib.hid hb0
    have HBx := Lib.hid (Box8.new w 27 (.int .i64 id.x) (.int .i64 id.y) (.int .i64 id.z) (.int .i64 kind) (.string label) (.slice Ah nh ch) (.slice Aw nw cw) (.slice Ak nk ck))
    have HL0 := Lib.hid (alloc_lt w (.cells #[.int .i64 id.x, .int .i64 id.y, .int .i64 id.z, .int .i64 kind, .string label, .slice Ah nh ch, .slice Aw nw cw, .slice Ak nk ck] 27))
    obtain ⟨n0, n1, n2, n3, n4, n5, n6, n7⟩ := HBx.out
    have HH := Lib.hid (unmarked_any head nh ch Ah _ (hWh.below hb0))
    have HWw := Lib.hid hWw
    have HE : Hid (plainB (Ut.mk id kind label head words kids) = (plainW head && plainW words)) := Lib.hid rfl
    clear hR hV hok hWh hWw hb0
    cases hh : plainW head with
    | false =>
      rw [hh] at HE HH
      clear hh
      go_enter Tryd.func78, Tryd.ntmps78
      go_wp2_with fail
      with_reducible refine (HH.out).mono ?_
      rintro e w1 ⟨rfl, hb1⟩
      go_wp2_with fail
      go_ret
      exact ⟨ret_bool (by rw [HE.out]; rfl), HB0.out.trans (hb1.mono HB0.out.size)⟩
    | true =>
      rw [hh] at HE HH
      clear hh
      go_enter Tryd.func78, Tryd.ntmps78
      go_wp2_with fail
      with_reducible refine (HH.out).mono ?_
      rintro e w1 ⟨rfl, hb1⟩
      have HX := Lib.hid (HB0.out.trans (hb1.mono HB0.out.size))
      obtain ⟨q0, q1, q2, q3, q4, q5, q6, q7⟩ := HBx.out.below hb1 HL0.out
      have HW := Lib.hid (unmarked_any words nw cw Aw w1 (HWw.out.below HX.out))
      clear hb1
      go_wp2_with fail
      with_reducible refine (HW.out).mono ?_
      rintro e w2 ⟨rfl, hb2⟩
      go_wp2_with fail
      go_ret
      exact ⟨ret_bool (by rw [HE.out]; rfl), HX.out.trans (hb2.mono HX.out.size)⟩
theorem plain_tests (w : World) : Tests 78 #[] plainB (fun _ => True) w := fun x v W _ _ hV => plainu_any x v W hV
theorem plain_enters : ∀ args w, (callFunc 78 args).run Tryd.prog w = .ok (.enter 78 args) w := Go.Proofs.enters_of Tryd.func78 (by kernel_rfl) rfl
end Go.Proofs.YtcacnelhppakoaaDoor
