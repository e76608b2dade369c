/-
  The reference: May, Bare.
-/
import Derived.Deep.RegionHeld3
import Derived.Test.YtiohjjgncbhimaaDoorRid
import Derived.Test.YtiohjjgncbhimaaDoorRis
import Derived.Test.YtiohjjgncbhimaaDoorRst
namespace Go.Proofs.YtiohjjgncbhimaaDoor
open Go.RowKit (wrap32 wrap64 intOf Hid Below)
open Lab Lcs
theorem may_eq (u : Ut) : validB u = (rightB u && decide (u.depth ≤ 8) && decide (u.count ≤ 1024) && idsB u) := by
 unfold validB rightB
 cases decide (u.count ≤ 1024) <;> cases decide (u.depth ≤ 8) <;> cases u.all.all aloneB <;> cases u.all.all kidsB <;> cases idsB u <;> rfl
set_option maxHeartbeats 4000000 in
set_option maxRecDepth 100000 in
theorem rmay_any (u : Ut) (v : Value) (w : World) (hV : UtV w u v) (hM : Tame u) :
   Calls Tryd.prog 33 #[v] w fun e w' => e = .returned (.bool (validB u)) ∧ Below w.heap.size w w' := by
 have hV0 := hV
 cases u with
 | mk id kind label head words kids =>
   obtain ⟨Ah, Aw, Ak, nh, ch, nw, cw, nk, ck, rfl, _, _, _, _⟩ := hV.open_
   obtain ⟨U, hU⟩ : ∃ U, U = Ut.mk id kind label head words kids := ⟨_, rfl⟩
   rw [← hU] at hV0 hM ⊢
   have hb0 := alloc_below w (.cells #[.int .i64 id.x, .int .i64 id.y, .int .i64 id.z, .int .i64 kind, .string label, .slice Ah nh ch, .slice Aw nw cw, .slice Ak nk ck] 27)
   have HB0 := Lib.hid hb0
   have HBx := Lib.hid (Box8.new w 27 (.int .i64 id.x) (.int .i64 id.y) (.int .i64 id.z) (.int .i64 kind) (.string label) (.slice Ah nh ch) (.slice Aw nw cw) (.slice Ak nk ck))
   have HL0 := Lib.hid (alloc_lt w (.cells #[.int .i64 id.x, .int .i64 id.y, .int .i64 id.z, .int .i64 kind, .string label, .slice Ah nh ch, .slice Aw nw cw, .slice Ak nk ck] 27))
   have HV0 := Lib.hid hV0
   have hdc := depth_count U
   have hE := may_eq U
   have hR : ∀ W, Below w.heap.size w W → Calls Tryd.prog 48 #[.agg #[.int .i64 id.x, .int .i64 id.y, .int .i64 id.z, .int .i64 kind, .string label, .slice Ah nh ch, .slice Aw nw cw, .slice Ak nk ck]] W fun e w' => e = .returned (.bool (rightB U)) ∧ Below W.heap.size W w' := fun W hb => right_any _ U _ W (Nat.le_refl _) hM (HV0.out.below hb)
   have hD : ∀ W, Below w.heap.size w W → Calls Tryd.prog 49 #[.agg #[.int .i64 id.x, .int .i64 id.y, .int .i64 id.z, .int .i64 kind, .string label, .slice Ah nh ch, .slice Aw nw cw, .slice Ak nk ck]] W fun e w' => e = .returned (.int .i64 (U.depth : Nat)) ∧ Below W.heap.size W w' := fun W hb => rdepth_any _ U _ W (Nat.le_refl _) (by have := hM.1; omega) (HV0.out.below hb)
   have hC : ∀ W, Below w.heap.size w W → Calls Tryd.prog 50 #[.agg #[.int .i64 id.x, .int .i64 id.y, .int .i64 id.z, .int .i64 kind, .string label, .slice Ah nh ch, .slice Aw nw cw, .slice Ak nk ck]] W fun e w' => e = .returned (.int .i64 (U.count : Nat)) ∧ Below W.heap.size W w' := fun W hb => rcount_any _ U _ W (Nat.le_refl _) hM.1 (HV0.out.below hb)
   have HI : Hid (∀ W, Below w.heap.size w W → Calls Tryd.prog 51 #[.agg #[.int .i64 id.x, .int .i64 id.y, .int .i64 id.z, .int .i64 kind, .string label, .slice Ah nh ch, .slice Aw nw cw, .slice Ak nk ck]] W fun e w' => e = .returned (.bool (idsB U)) ∧ Below W.heap.size W w') := Lib.hid fun W hb => rids_any U _ W (HV0.out.below hb) hM.1
   generalize U.depth = d at hD hE
   generalize U.count = c at hC hE
   have HR := Lib.hid hR
   have HD := Lib.hid hD
   have HC := Lib.hid hC
   have HE := Lib.hid hE
   have HF := Lib.hid (HR.out _ HB0.out)
   obtain ⟨n0, n1, n2, n3, n4, n5, n6, n7⟩ := HBx.out
   clear hV hV0 hM hU hb0 hR hD hC hE hdc
   cases h1 : rightB U with
   | false =>
     rw [h1] at HF HE
     clear h1
     go_enter Tryd.func33, Tryd.ntmps33
     go_wp2_with fail
     with_reducible refine (HF.out).mono ?_
     rintro e w1 ⟨rfl, hb1⟩
     go_wp2_with fail
     go_ret
     exact ⟨ret_bool (by rw [HE.out]; rfl), HB0.out.trans (hb1.mono HB0.out.size)⟩
   | true =>
     rw [h1] at HF HE
     clear h1
     go_enter Tryd.func33, Tryd.ntmps33
     go_wp2_with fail
     with_reducible refine (HF.out).mono ?_
     rintro e w1 ⟨rfl, hb1⟩
     have X1 := Lib.hid (HB0.out.trans (hb1.mono HB0.out.size))
     have Y1 := Lib.hid (HBx.out.below hb1 HL0.out)
     have Z1 := Lib.hid (Nat.lt_of_lt_of_le HL0.out hb1.size)
     have HC2 := Lib.hid (HD.out w1 X1.out)
     obtain ⟨p0, p1, p2, p3, p4, p5, p6, p7⟩ := Y1.out
     clear hb1
     go_wp2_with fail
     with_reducible refine (HC2.out).mono ?_
     rintro e w2 ⟨rfl, hb2⟩
     have X2 := Lib.hid (X1.out.trans (hb2.mono X1.out.size))
     have Y2 := Lib.hid (Y1.out.below hb2 Z1.out)
     have Z2 := Lib.hid (Nat.lt_of_lt_of_le Z1.out hb2.size)
     have HC3 := Lib.hid (HC.out w2 X2.out)
     obtain ⟨q0, q1, q2, q3, q4, q5, q6, q7⟩ := Y2.out
     clear hb2 p0 p1 p2 p3 p4 p5 p6 p7
     by_cases h8 : d ≤ 8
     · rw [decide_eq_true h8] at HE
       go_wp2_with fail
       with_reducible refine (HC3.out).mono ?_
       rintro e w3 ⟨rfl, hb3⟩
       have X3 := Lib.hid (X2.out.trans (hb3.mono X2.out.size))
       have Y3 := Lib.hid (Y2.out.below hb3 Z2.out)
       have HC4 := Lib.hid (HI.out w3 X3.out)
       obtain ⟨p0, p1, p2, p3, p4, p5, p6, p7⟩ := Y3.out
       clear hb3 q0 q1 q2 q3 q4 q5 q6 q7
       by_cases hc : c ≤ 1024
       · rw [decide_eq_true hc] at HE
         go_wp2_with fail
         with_reducible refine (HC4.out).mono ?_
         rintro e w4 ⟨rfl, hb4⟩
         go_wp2_with fail
         go_ret
         exact ⟨ret_bool (by rw [HE.out]; simp), X3.out.trans (hb4.mono X3.out.size)⟩
       · rw [decide_eq_false hc] at HE
         have hc' : 1024 < c := by omega
         clear hc
         go_wp2_with fail
         go_ret
         exact ⟨ret_bool (by rw [HE.out]; simp), X3.out⟩
     · rw [decide_eq_false h8] at HE
       have h8' : 8 < d := by omega
       clear h8
       go_wp2_with fail
       go_ret
       exact ⟨ret_bool (by rw [HE.out]; simp), X2.out⟩
end Go.Proofs.YtiohjjgncbhimaaDoor
