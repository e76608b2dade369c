/-
  The reference: a unit on its own.
-/
import Derived.Test.YtmnbobcgjnickaaGreatDoorAlo
namespace Go.Proofs.YtmnbobcgjnickaaGreatDoor
open Go.RowKit (wrap32 wrap64 intOf Hid Below)
open Lab Lcs
theorem alone_head {id : Trip} {kind : Int} {label : Str} {head words : List Wd} {kids : List Ut} (h : rowB head = false) : aloneB (.mk id kind label head words kids) = false := by
 unfold aloneB
 rw [Bool.and_eq_false_iff]
 right
 by_cases hk : kind = 0
 · rw [if_pos hk]
   cases head with
   | nil => exact absurd h (by decide)
   | cons a r => rw [List.isEmpty_cons, Bool.and_false, Bool.false_and]
 · rw [if_neg hk, h, Bool.and_false, Bool.false_and]
theorem alone_words {id : Trip} {kind : Int} {label : Str} {head words : List Wd} {kids : List Ut} (h : rowB words = false) : aloneB (.mk id kind label head words kids) = false := by
 unfold aloneB
 rw [Bool.and_eq_false_iff]
 right
 by_cases hk : kind = 0
 · rw [if_pos hk]
   cases words with
   | nil => exact absurd h (by decide)
   | cons a r => rw [List.isEmpty_cons, Bool.and_false]
 · rw [if_neg hk, h, Bool.and_false]
theorem alone_kind {id : Trip} {kind : Int} {label : Str} {head words : List Wd} {kids : List Ut} (h : ¬ (0 ≤ kind ∧ kind ≤ 7)) : aloneB (.mk id kind label head words kids) = false := by
 unfold aloneB
 rw [Bool.and_eq_false_iff]
 right
 rw [if_neg (by omega), decide_eq_false (by omega)]
 rfl
set_option maxHeartbeats 4000000 in
set_option maxRecDepth 100000 in
theorem ralone_any (u : Ut) (v : Value) (w : World) (hV : UtV w u v) (hS : TameU u) :
   Calls Tryz.prog 107 #[v] w fun e w' => e = .returned (.bool (aloneB u)) ∧ Below w.heap.size w w' := by
 cases u with
 | mk id kind label head words kids =>
   obtain ⟨Ah, Aw, Ak, nh, ch, nw, cw, nk, ck, rfl, hok, hWh, hWw, hR⟩ := hV.open_
   obtain ⟨hs1, hs2, hs3⟩ := hS
   have hs1 : label.size ≤ 1000000 := hs1
   have hs2 : head.length ≤ 1000000 := hs2
   have hs3 : words.length ≤ 1000000 := hs3
   have hnk := hR.2.1
   have hck := hR.2.2.1
   have hlk := hR.1
   have hnh := hWh.len
   have hnw := hWw.len
   have hch := hWh.2.1
   have hch2 := hWh.2.2.1
   have hcw := hWw.2.1
   have hcw2 := hWw.2.2.1
   have hb0 := alloc_below w (.cells #[.int .i64 id.x, .int .i64 id.y, .int .i64 id.z, .int .i64 kind, .string label, .slice Ah nh ch, .slice Aw nw cw, .slice Ak nk ck] 27)
   have HB0 := Lib.hid hb0
   have HBx := Lib.hid (Box8.new w 27 (.int .i64 id.x) (.int .i64 id.y) (.int .i64 id.z) (.int .i64 kind) (.string label) (.slice Ah nh ch) (.slice Aw nw cw) (.slice Ak nk ck))
   have HL0 := Lib.hid (alloc_lt w (.cells #[.int .i64 id.x, .int .i64 id.y, .int .i64 id.z, .int .i64 kind, .string label, .slice Ah nh ch, .slice Aw nw cw, .slice Ak nk ck] 27))
   have HH := Lib.hid (row_any head nh ch Ah _ (hWh.below hb0) (by omega))
   have HWw := Lib.hid hWw
   have HM : Hid (∀ W, Calls Tryz.prog 49 #[.string label] W fun e w' => e = .returned (.bool (mayL label.data.toList)) ∧ W = w') := Lib.hid fun W => may_any label W hs1
   obtain ⟨n0, n1, n2, n3, n4, n5, n6, n7⟩ := HBx.out
   have HNh := Lib.hid hnh
   have HNw := Lib.hid hnw
   have HNk := Lib.hid hlk
   clear hR hV hok hWh hWw hb0 hnh hnw hlk
   by_cases hk0 : 0 ≤ kind
   case neg =>
     have HE := Lib.hid (alone_kind (id := id) (label := label) (head := head) (words := words) (kids := kids) (fun h => hk0 h.1))
     have hk0' : kind < 0 := by omega
     clear hk0
     go_enter Tryz.func107, Tryz.ntmps107
     go_wp2_with fail
     go_ret
     exact ⟨ret_bool HE.out.symm, HB0.out⟩
   by_cases hk7 : kind ≤ 7
   case neg =>
     have HE := Lib.hid (alone_kind (id := id) (label := label) (head := head) (words := words) (kids := kids) (fun h => hk7 h.2))
     have hk7' : 7 < kind := by omega
     clear hk7
     go_enter Tryz.func107, Tryz.ntmps107
     go_wp2_with fail
     go_ret
     exact ⟨ret_bool HE.out.symm, HB0.out⟩
   by_cases h64 : nk ≤ 64
   case neg =>
     have HE := Lib.hid (alone_many (id := id) (kind := kind) (label := label) (head := head) (words := words) (kids := kids) (by have := HNk.out; omega))
     have h64' : 64 < nk := by omega
     clear h64
     go_enter Tryz.func107, Tryz.ntmps107
     go_wp2_with fail
     go_ret
     exact ⟨ret_bool HE.out.symm, HB0.out⟩
   cases hh : rowB head with
   | false =>
     have HE := Lib.hid (alone_head (id := id) (kind := kind) (label := label) (head := head) (words := words) (kids := kids) hh)
     rw [hh] at HH
     clear hh
     go_enter Tryz.func107, Tryz.ntmps107
     go_wp2_with fail
     with_reducible refine (HH.out).mono ?_
     rintro e w1 ⟨rfl, hb1⟩
     go_wp2_with fail
     go_ret
     exact ⟨ret_bool HE.out.symm, HB0.out.trans (hb1.mono HB0.out.size)⟩
   | true =>
     rw [hh] at HH
     have HHt := Lib.hid hh
     clear hh
     cases hw : rowB words with
     | false =>
       have HE := Lib.hid (alone_words (id := id) (kind := kind) (label := label) (head := head) (words := words) (kids := kids) hw)
       go_enter Tryz.func107, Tryz.ntmps107
       go_wp2_with fail
       with_reducible refine (HH.out).mono ?_
       rintro e w1 ⟨rfl, hb1⟩
       have X1 := Lib.hid (HB0.out.trans (hb1.mono HB0.out.size))
       obtain ⟨p0, p1, p2, p3, p4, p5, p6, p7⟩ := HBx.out.below hb1 HL0.out
       have hW := row_any words nw cw Aw w1 (HWw.out.below X1.out) (by have := HNw.out; omega)
       rw [hw] at hW
       have HW := Lib.hid hW
       clear hb1 hW hw
       go_wp2_with fail
       with_reducible refine (HW.out).mono ?_
       rintro e w2 ⟨rfl, hb2⟩
       go_wp2_with fail
       go_ret
       exact ⟨ret_bool HE.out.symm, X1.out.trans (hb2.mono X1.out.size)⟩
     | true =>
       have HWt := Lib.hid hw
       clear hw
       go_enter Tryz.func107, Tryz.ntmps107
       go_wp2_with fail
       with_reducible refine (HH.out).mono ?_
       rintro e w1 ⟨rfl, hb1⟩
       have X1 := Lib.hid (HB0.out.trans (hb1.mono HB0.out.size))
       have Y1 := Lib.hid (HBx.out.below hb1 HL0.out)
       have Z1 := Lib.hid (Nat.lt_of_lt_of_le HL0.out hb1.size)
       obtain ⟨p0, p1, p2, p3, p4, p5, p6, p7⟩ := Y1.out
       have hW := row_any words nw cw Aw w1 (HWw.out.below X1.out) (by have := HNw.out; omega)
       rw [HWt.out] at hW
       have HW := Lib.hid hW
       clear hb1 hW
       go_wp2_with fail
       with_reducible refine (HW.out).mono ?_
       rintro e w2 ⟨rfl, hb2⟩
       have X2 := Lib.hid (X1.out.trans (hb2.mono X1.out.size))
       obtain ⟨q0, q1, q2, q3, q4, q5, q6, q7⟩ := Y1.out.below hb2 Z1.out
       clear hb2 p0 p1 p2 p3 p4 p5 p6 p7
       by_cases hk : kind = 0
       · subst hk
         have HE := Lib.hid (alone_book (id := id) (label := label) (head := head) (words := words) (kids := kids) (by have := HNk.out; omega))
         rw [isEmpty_len, isEmpty_len, HNh.out, HNw.out] at HE
         by_cases hl : label.size = 0
         · obtain rfl := size_zero hl
           by_cases hh : nh = 0
           · subst hh
             by_cases hw : nw = 0
             · subst hw
               go_wp2_with fail
               go_ret
               exact ⟨ret_bool HE.out.symm, X2.out⟩
             · rw [decide_eq_false hw] at HE
               have f1 : ((nw : Int) == 0) = false := by rw [beq_eq_false_iff_ne]; omega
               go_wp2_with fail
               go_ret
               exact ⟨ret_bool (by rw [HE.out]; rfl), X2.out⟩
           · rw [decide_eq_false hh] at HE
             have f1 : ((nh : Int) == 0) = false := by rw [beq_eq_false_iff_ne]; omega
             go_wp2_with fail
             go_ret
             exact ⟨ret_bool (by rw [HE.out]; rfl), X2.out⟩
         · rw [decide_eq_false hl] at HE
           have f1 := empty_list hl
           clear hl
           go_wp2_with fail
           go_ret
           exact ⟨ret_bool (by rw [HE.out]; rfl), X2.out⟩
       · have HE := Lib.hid (alone_other (id := id) (label := label) (head := head) (words := words) (kids := kids) (by have := HNk.out; omega) hk)
         rw [decide_eq_true ⟨hk0, hk7⟩, HHt.out, HWt.out] at HE
         have f0 : (kind == 0) = false := by rw [beq_eq_false_iff_ne]; exact hk
         clear hk
         go_wp2_with fail
         with_reducible refine (HM.out _).mono ?_
         rintro e w3 ⟨rfl, rfl⟩
         go_wp2_with fail
         go_ret
         exact ⟨ret_bool (by rw [HE.out]; simp), X2.out⟩
end Go.Proofs.YtmnbobcgjnickaaGreatDoor
