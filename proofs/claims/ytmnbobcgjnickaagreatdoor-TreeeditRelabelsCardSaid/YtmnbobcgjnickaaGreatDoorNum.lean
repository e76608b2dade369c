/-
  Units without an ID: unnumbered; unmarked units.
-/
import Derived.Test.YtmnbobcgjnickaaGreatDoorWdc
namespace Go.Proofs.YtmnbobcgjnickaaGreatDoor
open Go.RowKit (wrap32 wrap64 intOf Hid Below)
open Lab Lcs
set_option maxHeartbeats 4000000 in
set_option maxRecDepth 100000 in
theorem zeroid_any (u : Ut) (v : Value) (w : World) (hV : UtV w u v) :
   Calls Tryz.prog 118 #[v] w fun e w' => e = .returned (.bool (decide (u.id = .zero))) ∧ Below w.heap.size w w' := by
 cases u with
 | mk id kind label head words kids =>
   obtain ⟨Ah, Aw, Ak, nh, ch, nw, cw, nk, ck, rfl, hok, hWh, hWw, hR⟩ := hV.open_
   obtain ⟨ix, iy, iz⟩ := id
   have hb0 := alloc_below w (.cells #[.int .i64 ix, .int .i64 iy, .int .i64 iz, .int .i64 kind, .string label, .slice Ah nh ch, .slice Aw nw cw, .slice Ak nk ck] 27)
   obtain ⟨n0, n1, n2, n3, n4, n5, n6, n7⟩ := Box8.new w 27 (.int .i64 ix) (.int .i64 iy) (.int .i64 iz) (.int .i64 kind) (.string label) (.slice Ah nh ch) (.slice Aw nw cw) (.slice Ak nk ck)
   have HB0 := Lib.hid hb0
   clear hR hV hok hWh hWw hb0
   show Calls Tryz.prog 118 _ w _
   by_cases hz : (⟨ix, iy, iz⟩ : Trip) = .zero
   · have HE : Hid (decide ((Ut.mk ⟨ix, iy, iz⟩ kind label head words kids).id = .zero) = true) := Lib.hid (decide_eq_true hz)
     unfold Trip.zero at hz
     obtain ⟨rfl, rfl, rfl⟩ : ix = 0 ∧ iy = 0 ∧ iz = 0 := by simpa using hz
     clear hz
     go_enter Tryz.func118, Tryz.ntmps118
     go_wp2
     go_ret
     exact ⟨ret_bool HE.out.symm, HB0.out⟩
   · have HE : Hid (decide ((Ut.mk ⟨ix, iy, iz⟩ kind label head words kids).id = .zero) = false) := Lib.hid (decide_eq_false hz)
     rcases trip_part hz with h | ⟨rfl, h⟩ | ⟨rfl, rfl, h⟩
     all_goals
       clear hz
       go_enter Tryz.func118, Tryz.ntmps118
       go_wp2
       go_ret
       exact ⟨ret_bool HE.out.symm, HB0.out⟩
theorem zero_tests (w : World) : Tests 118 #[] (fun x => decide (x.id = .zero)) (fun _ => True) w := fun x v W _ _ hV => zeroid_any x v W hV
theorem zero_enters : ∀ args w, (callFunc 118 args).run Tryz.prog w = .ok (.enter 118 args) w := Go.Proofs.enters_of Tryz.func118 (by kernel_rfl) rfl
set_option maxHeartbeats 4000000 in
set_option maxRecDepth 100000 in
theorem unnumbered_any (u : Ut) (v : Value) (w : World) (hV : UtV w u v) :
   Calls Tryz.prog 109 #[v] w fun e w' => e = .returned (.bool (zeroIds u)) ∧ Below w.heap.size w w' := by
 have hV0 := hV
 cases u with
 | mk id kind label head words kids =>
   obtain ⟨Ah, Aw, Ak, nh, ch, nw, cw, nk, ck, rfl, hok, hWh, hWw, hR⟩ := hV.open_
   have hb0 := alloc_below w (.cells #[.int .i64 id.x, .int .i64 id.y, .int .i64 id.z, .int .i64 kind, .string label, .slice Ah nh ch, .slice Aw nw cw, .slice Ak nk ck] 27)
   have HB0 := Lib.hid hb0
   obtain ⟨n0, n1, n2, n3, n4, n5, n6, n7⟩ := Box8.new w 27 (.int .i64 id.x) (.int .i64 id.y) (.int .i64 id.z) (.int .i64 kind) (.string label) (.slice Ah nh ch) (.slice Aw nw cw) (.slice Ak nk ck)
   have HE := Lib.hid (every_any 118 #[] zero_enters (fun x => decide (x.id = .zero)) (fun _ => True) _ _ _ _ (Nat.le_refl _) (fun _ _ => trivial) (hV0.below hb0) (zero_tests _))
   clear hR hV hV0 hok hWh hWw hb0
   go_enter Tryz.func109, Tryz.ntmps109
   go_wp2_with fail
   with_reducible refine (HE.out).mono ?_
   rintro e w1 ⟨rfl, hb1⟩
   go_wp2_with fail
   go_ret
   exact ⟨rfl, HB0.out.trans (hb1.mono HB0.out.size)⟩
end Go.Proofs.YtmnbobcgjnickaaGreatDoor
