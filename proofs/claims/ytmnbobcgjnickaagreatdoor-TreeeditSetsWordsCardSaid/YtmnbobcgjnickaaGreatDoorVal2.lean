/-
  The contracts of Valid and IsBare.
-/
import Derived.Test.YtmnbobcgjnickaaGreatDoorVid
import Derived.Test.YtmnbobcgjnickaaGreatDoorAlo
namespace Go.Proofs.YtmnbobcgjnickaaGreatDoor
open Go.RowKit (wrap32 wrap64 intOf Hid Below)
open Lab Lcs
mutual
theorem depth_count : ∀ u : Ut, u.depth + 1 ≤ u.count
 | .mk id kind label head words kids => by
   rw [depth_mk, count_mk]
   have := depths_counts kids
   omega
theorem depths_counts : ∀ l : List Ut, Ut.depths l ≤ Ut.counts l
 | [] => by simp [Ut.depths, Ut.counts]
 | u :: r => by
   have h1 := depth_count u
   have h2 := depths_counts r
   simp only [Ut.depths, Ut.counts]
   omega
end
theorem kids_counts : ∀ l : List Ut, l.length ≤ Ut.counts l
 | [] => Nat.zero_le _
 | u :: r => by
   have h1 := count_pos u
   have h2 := kids_counts r
   simp only [List.length_cons, Ut.counts]
   omega
theorem all_trans : ∀ (N : Nat) (u x : Ut), u.count ≤ N → x ∈ u.all → ∀ y ∈ x.all, y ∈ u.all
 | 0, u, _, h, _ => by have := count_pos u; omega
 | N + 1, .mk id kind label head words kids, x, h, hx => by
   intro y hy
   rw [all_mk] at hx
   rcases List.mem_cons.1 hx with rfl | hx
   · exact hy
   · obtain ⟨k, hk, hxk⟩ := mem_alls.1 hx
     obtain ⟨j, hj, rfl⟩ := List.getElem_of_mem hk
     have hlt := kid_lt (id := id) (kind := kind) (label := label) (head := head) (words := words) (List.getElem?_eq_getElem hj)
     exact kid_all (List.getElem?_eq_getElem hj) _ (all_trans N _ x (by omega) hxk y hy)
theorem kid_in {u x y : Ut} (hx : x ∈ u.all) (hy : y ∈ x.kids) : y ∈ u.all := by
 refine all_trans _ u x (Nat.le_refl _) hx y ?_
 cases x with
 | mk id kind label head words kids =>
   obtain ⟨j, hj, rfl⟩ := List.getElem_of_mem hy
   exact kid_all (List.getElem?_eq_getElem hj) _ (self_all _)
theorem sub_count : ∀ (N : Nat) (u x : Ut), u.count ≤ N → x ∈ u.all → x.count ≤ u.count
 | 0, u, _, h, _ => by have := count_pos u; omega
 | N + 1, .mk id kind label head words kids, x, h, hx => by
   rw [all_mk] at hx
   rcases List.mem_cons.1 hx with rfl | hx
   · exact Nat.le_refl _
   · obtain ⟨k, hk, hxk⟩ := mem_alls.1 hx
     obtain ⟨j, hj, rfl⟩ := List.getElem_of_mem hk
     have hlt := kid_lt (id := id) (kind := kind) (label := label) (head := head) (words := words) (List.getElem?_eq_getElem hj)
     have := sub_count N _ x (by omega) hxk
     omega
def Tame (u : Ut) : Prop := u.count ≤ 1000000000 ∧ ∀ x ∈ u.all, TameU x
theorem Tame.kids {u : Ut} (h : Tame u) : ∀ x ∈ u.all, (∀ y ∈ x.kids, y.label.size ≤ 1000000) ∧ x.kids.length ≤ 1000000000 := by
 intro x hx
 refine ⟨fun y hy => (h.2 y (kid_in hx hy)).1, ?_⟩
 have h1 := sub_count _ u x (Nat.le_refl _) hx
 have h2 := h.1
 cases x with
 | mk id kind label head words kids =>
   rw [count_mk] at h1
   have := kids_counts kids
   exact (by show kids.length ≤ 1000000000; omega)
theorem alone_tests (w : World) (hT : Tab w) : Tests 91 #[] aloneB TameU w := fun x v W hS hb hV => alone_any x v W (hT.below hb) hV hS
theorem alone_enters : ∀ args w, (callFunc 91 args).run Tryz.prog w = .ok (.enter 91 args) w := Go.Proofs.enters_of Tryz.func91 (by kernel_rfl) rfl
theorem kids_tests (w : World) (hT : TabN w) : Tests 92 #[] kidsB (fun x => (∀ y ∈ x.kids, y.label.size ≤ 1000000) ∧ x.kids.length ≤ 1000000000) w := fun x v W hS hb hV => children_any x v W (hT.below hb) hV hS.1 hS.2
theorem kids_enters : ∀ args w, (callFunc 92 args).run Tryz.prog w = .ok (.enter 92 args) w := Go.Proofs.enters_of Tryz.func92 (by kernel_rfl) rfl
theorem and5 {a b c d e x : Bool} (h : x = (a && b && c && d && e)) : (a = false → x = false) ∧ (b = false → x = false) ∧ (c = false → x = false) ∧ (d = false → x = false) ∧ (a = true → b = true → c = true → d = true → x = e) := by
 subst h
 refine ⟨?_, ?_, ?_, ?_, ?_⟩ <;> (cases a <;> cases b <;> cases c <;> cases d <;> cases e <;> simp)
set_option maxHeartbeats 4000000 in
set_option maxRecDepth 100000 in
theorem uvalid_any (u : Ut) (v : Value) (w : World) (hT : Tab w) (hN : TabN w) (hV : UtV w u v) (hM : Tame u) :
   Calls Tryz.prog 68 #[v] w fun e w' => e = .returned (.bool (validB u)) ∧ Below w.heap.size w w' := by
 have hV0 := hV
 cases u with
 | mk id kind label head words kids =>
   obtain ⟨Ah, Aw, Ak, nh, ch, nw, cw, nk, ck, rfl, _, _, _, _⟩ := hV.open_
   obtain ⟨U, hU⟩ : ∃ U, U = Ut.mk id kind label head words kids := ⟨_, rfl⟩
   rw [← hU] at hV0 hM ⊢
   obtain ⟨e1, e2, e3, e4, e5⟩ := and5 (show validB U = _ from rfl)
   have E1 := Lib.hid e1
   have E2 := Lib.hid e2
   have E3 := Lib.hid e3
   have E4 := Lib.hid e4
   have E5 := Lib.hid e5
   have hb0 := alloc_below w (.cells #[.int .i64 id.x, .int .i64 id.y, .int .i64 id.z, .int .i64 kind, .string label, .slice Ah nh ch, .slice Aw nw cw, .slice Ak nk ck] 27)
   have HB0 := Lib.hid hb0
   have HBx := Lib.hid (Box8.new w 27 (.int .i64 id.x) (.int .i64 id.y) (.int .i64 id.z) (.int .i64 kind) (.string label) (.slice Ah nh ch) (.slice Aw nw cw) (.slice Ak nk ck))
   have HL0 := Lib.hid (alloc_lt w (.cells #[.int .i64 id.x, .int .i64 id.y, .int .i64 id.z, .int .i64 kind, .string label, .slice Ah nh ch, .slice Aw nw cw, .slice Ak nk ck] 27))
   have HV0 := Lib.hid hV0
   have HM := Lib.hid hM
   have HT := Lib.hid hT
   have HN := Lib.hid hN
   have hdc := depth_count U
   have hm1 := hM.1
   have HCn := Lib.hid (count_any _ U _ _ (Nat.le_refl _) hM.1 (hV0.below hb0))
   have HDp : Hid (∀ W, Below w.heap.size w W → Calls Tryz.prog 76 #[.agg #[.int .i64 id.x, .int .i64 id.y, .int .i64 id.z, .int .i64 kind, .string label, .slice Ah nh ch, .slice Aw nw cw, .slice Ak nk ck]] W fun e w' => e = .returned (.int .i64 (U.depth : Nat)) ∧ Below W.heap.size W w') := Lib.hid fun W hb => depth_any _ U _ W (Nat.le_refl _) (by have := HM.out.1; omega) (HV0.out.below hb)
   have HAl : Hid (∀ W, Below w.heap.size w W → Calls Tryz.prog 86 #[.agg #[.int .i64 id.x, .int .i64 id.y, .int .i64 id.z, .int .i64 kind, .string label, .slice Ah nh ch, .slice Aw nw cw, .slice Ak nk ck], .func (.func 91) #[] #[]] W fun e w' => e = .returned (.bool (U.all.all aloneB)) ∧ Below W.heap.size W w') := Lib.hid fun W hb => every_any 91 #[] alone_enters aloneB TameU _ U _ W (Nat.le_refl _) HM.out.2 (HV0.out.below hb) (alone_tests W (HT.out.below hb))
   have HKi : Hid (∀ W, Below w.heap.size w W → Calls Tryz.prog 86 #[.agg #[.int .i64 id.x, .int .i64 id.y, .int .i64 id.z, .int .i64 kind, .string label, .slice Ah nh ch, .slice Aw nw cw, .slice Ak nk ck], .func (.func 92) #[] #[]] W fun e w' => e = .returned (.bool (U.all.all kidsB)) ∧ Below W.heap.size W w') := Lib.hid fun W hb => every_any 92 #[] kids_enters kidsB _ _ U _ W (Nat.le_refl _) HM.out.kids (HV0.out.below hb) (kids_tests W (HN.out.below hb))
   have HId : Hid (∀ W, Below w.heap.size w W → Calls Tryz.prog 93 #[.agg #[.int .i64 id.x, .int .i64 id.y, .int .i64 id.z, .int .i64 kind, .string label, .slice Ah nh ch, .slice Aw nw cw, .slice Ak nk ck]] W fun e w' => e = .returned (.bool (idsB U)) ∧ Below W.heap.size W w') := Lib.hid fun W hb => validids_any U _ W (HV0.out.below hb) HM.out.1
   obtain ⟨n, hn⟩ : ∃ n, n = U.count := ⟨_, rfl⟩
   obtain ⟨d, hd⟩ : ∃ d, d = U.depth := ⟨_, rfl⟩
   rw [← hn] at HCn hm1 hdc
   rw [← hd] at HDp hdc
   have HN1 := Lib.hid hn
   have HD1 := Lib.hid hd
   obtain ⟨n0, n1, n2, n3, n4, n5, n6, n7⟩ := HBx.out
   clear hT hN hV hV0 hM hU e1 e2 e3 e4 e5 hb0 hn hd
   by_cases h1 : n ≤ 1024
   case neg =>
     have h1' : 1024 < n := by omega
     have HE := Lib.hid (E1.out (decide_eq_false (by rw [← HN1.out]; exact h1)))
     clear h1
     go_enter Tryz.func68, Tryz.ntmps68
     go_wp2_with fail
     with_reducible refine (HCn.out).mono ?_
     rintro e w1 ⟨rfl, hb1⟩
     go_wp2_with fail
     go_ret
     exact ⟨ret_bool (by rw [HE.out]), HB0.out.trans (hb1.mono HB0.out.size)⟩
   have T1 : Hid (decide (U.count ≤ 1024) = true) := Lib.hid (decide_eq_true (by rw [← HN1.out]; exact h1))
   go_enter Tryz.func68, Tryz.ntmps68
   go_wp2_with fail
   with_reducible refine (HCn.out).mono ?_
   rintro e w1 ⟨rfl, hb1⟩
   have X1 := Lib.hid (HB0.out.trans (hb1.mono HB0.out.size))
   have Y1 := Lib.hid (HBx.out.below hb1 HL0.out)
   have Z1 := Lib.hid (Nat.lt_of_lt_of_le HL0.out hb1.size)
   have HC2 := Lib.hid (HDp.out w1 X1.out)
   obtain ⟨p0, p1, p2, p3, p4, p5, p6, p7⟩ := Y1.out
   clear hb1
   go_wp2_with fail
   with_reducible refine (HC2.out).mono ?_
   rintro e w2 ⟨rfl, hb2⟩
   have X2 := Lib.hid (X1.out.trans (hb2.mono X1.out.size))
   have Y2 := Lib.hid (Y1.out.below hb2 Z1.out)
   have Z2 := Lib.hid (Nat.lt_of_lt_of_le Z1.out hb2.size)
   clear hb2
   by_cases h2 : d ≤ 8
   case neg =>
     have h2' : 8 < d := by omega
     have HE := Lib.hid (E2.out (decide_eq_false (by rw [← HD1.out]; exact h2)))
     clear h2
     go_wp2_with fail
     go_ret
     exact ⟨ret_bool (by rw [HE.out]), X2.out⟩
   have T2 : Hid (decide (U.depth ≤ 8) = true) := Lib.hid (decide_eq_true (by rw [← HD1.out]; exact h2))
   have HC3 := Lib.hid (HAl.out w2 X2.out)
   obtain ⟨p0, p1, p2, p3, p4, p5, p6, p7⟩ := Y2.out
   go_wp2_with fail
   with_reducible refine (HC3.out).mono ?_
   rintro e w3 ⟨rfl, hb3⟩
   have X3 := Lib.hid (X2.out.trans (hb3.mono X2.out.size))
   have Y3 := Lib.hid (Y2.out.below hb3 Z2.out)
   have Z3 := Lib.hid (Nat.lt_of_lt_of_le Z2.out hb3.size)
   clear hb3
   cases h3 : U.all.all aloneB with
   | false =>
     have HE := Lib.hid (E3.out h3)
     clear h3
     go_wp2_with fail
     go_ret
     exact ⟨ret_bool HE.out.symm, X3.out⟩
   | true =>
     have T3 := Lib.hid h3
     clear h3
     have HC4 := Lib.hid (HKi.out w3 X3.out)
     obtain ⟨p0, p1, p2, p3, p4, p5, p6, p7⟩ := Y3.out
     go_wp2_with fail
     with_reducible refine (HC4.out).mono ?_
     rintro e w4 ⟨rfl, hb4⟩
     have X4 := Lib.hid (X3.out.trans (hb4.mono X3.out.size))
     have Y4 := Lib.hid (Y3.out.below hb4 Z3.out)
     clear hb4
     cases h4 : U.all.all kidsB with
     | false =>
       have HE := Lib.hid (E4.out h4)
       clear h4
       go_wp2_with fail
       go_ret
       exact ⟨ret_bool HE.out.symm, X4.out⟩
     | true =>
       have HE := Lib.hid (E5.out T1.out T2.out T3.out h4)
       clear h4
       have HC5 := Lib.hid (HId.out w4 X4.out)
       obtain ⟨p0, p1, p2, p3, p4, p5, p6, p7⟩ := Y4.out
       go_wp2_with fail
       with_reducible refine (HC5.out).mono ?_
       rintro e w5 ⟨rfl, hb5⟩
       go_wp2_with fail
       go_ret
       exact ⟨ret_bool HE.out.symm, X4.out.trans (hb5.mono X4.out.size)⟩
end Go.Proofs.YtmnbobcgjnickaaGreatDoor
