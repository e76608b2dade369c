/-
  A unit on its own: validAlone, the reference's alone; units without an ID, without marks.
-/
import Derived.Test.YtmnbobcgjnickaaGreatDoorWdc
namespace Go.Proofs.YtmnbobcgjnickaaGreatDoor
open Go.RowKit (wrap32 wrap64 intOf Hid Below)
open Lab Lcs
def TameU (x : Ut) : Prop := x.label.size ≤ 1000000 ∧ x.head.length ≤ 1000000 ∧ x.words.length ≤ 1000000
theorem empty_list {s : Str} (h : ¬ s.size = 0) : s.toList.isEmpty = false := by
 rw [ByteArray.toList_eq]
 cases hl : s.data.toList with
 | nil => exact absurd (by have := congrArg List.length hl; simpa using this) h
 | cons x l => rfl
theorem alone_many {id : Trip} {kind : Int} {label : Str} {head words : List Wd} {kids : List Ut} (h : 64 < kids.length) : aloneB (.mk id kind label head words kids) = false := by
 rw [aloneB, decide_eq_false (by omega)]
 rfl
theorem alone_book {id : Trip} {label : Str} {head words : List Wd} {kids : List Ut} (h : kids.length ≤ 64) : aloneB (.mk id 0 label head words kids) = (decide (label.size = 0) && head.isEmpty && words.isEmpty) := by
 rw [aloneB, decide_eq_true h, if_pos rfl]
 rfl
theorem alone_other {id : Trip} {kind : Int} {label : Str} {head words : List Wd} {kids : List Ut} (h : kids.length ≤ 64) (hk : ¬ kind = 0) : aloneB (.mk id kind label head words kids) = (decide (0 ≤ kind ∧ kind ≤ 7) && mayL label.data.toList && rowB head && rowB words) := by
 rw [aloneB, decide_eq_true h, if_neg hk, Bool.true_and]
 congr 3
 rw [decide_eq_decide]
 omega
theorem isEmpty_len {α : Type} (l : List α) : l.isEmpty = decide (l.length = 0) := by cases l <;> simp
set_option maxHeartbeats 4000000 in
set_option maxRecDepth 100000 in
theorem alone_any (u : Ut) (v : Value) (w : World) (hT : Tab w) (hV : UtV w u v) (hS : TameU u) :
   Calls Tryz.prog 91 #[v] w fun e w' => e = .returned (.bool (aloneB u)) ∧ Below w.heap.size w w' := by
 cases u with
 | mk id kind label head words kids =>
   obtain ⟨Ah, Aw, Ak, nh, ch, nw, cw, nk, ck, rfl, hok, hWh, hWw, hR⟩ := hV.open_
   obtain ⟨hs1, hs2, hs3⟩ := hS
   have hs1 : label.size ≤ 1000000 := hs1
   have hs2 : head.length ≤ 1000000 := hs2
   have hs3 : words.length ≤ 1000000 := hs3
   have hnk := hR.2.1
   have hck := hR.2.2.1
   have hlk := hR.1
   have hnh := hWh.len
   have hnw := hWw.len
   have hch := hWh.2.1
   have hch2 := hWh.2.2.1
   have hcw := hWw.2.1
   have hcw2 := hWw.2.2.1
   have hb0 := alloc_below w (.cells #[.int .i64 id.x, .int .i64 id.y, .int .i64 id.z, .int .i64 kind, .string label, .slice Ah nh ch, .slice Aw nw cw, .slice Ak nk ck] 27)
   have HB0 := Lib.hid hb0
   have HBx := Lib.hid (Box8.new w 27 (.int .i64 id.x) (.int .i64 id.y) (.int .i64 id.z) (.int .i64 kind) (.string label) (.slice Ah nh ch) (.slice Aw nw cw) (.slice Ak nk ck))
   have HL0 := Lib.hid (alloc_lt w (.cells #[.int .i64 id.x, .int .i64 id.y, .int .i64 id.z, .int .i64 kind, .string label, .slice Ah nh ch, .slice Aw nw cw, .slice Ak nk ck] 27))
   have HV := Lib.hid (valid_any label _ (hT.below hb0) hs1)
   have HK := Lib.hid (iskind_any kind (w.alloc (.cells #[.int .i64 id.x, .int .i64 id.y, .int .i64 id.z, .int .i64 kind, .string label, .slice Ah nh ch, .slice Aw nw cw, .slice Ak nk ck] 27)))
   have HWh := Lib.hid hWh
   have HWw := Lib.hid hWw
   obtain ⟨n0, n1, n2, n3, n4, n5, n6, n7⟩ := HBx.out
   clear hR hV hT hok hWh hWw hb0
   by_cases h64 : nk ≤ 64
   · by_cases hk0 : kind = 0
     · subst hk0
       have HE := Lib.hid (alone_book (id := id) (label := label) (head := head) (words := words) (kids := kids) (by omega))
       rw [isEmpty_len, isEmpty_len, hnh, hnw] at HE
       by_cases hl : label.size = 0
       · obtain rfl := size_zero hl
         by_cases hh : nh = 0
         · subst hh
           by_cases hw : nw = 0
           · subst hw
             clear hlk hnh hnw
             go_enter Tryz.func91, Tryz.ntmps91
             go_wp2_with fail
             go_ret
             exact ⟨ret_bool HE.out.symm, HB0.out⟩
           · rw [decide_eq_false hw] at HE
             have f1 : ((nw : Int) == 0) = false := by rw [beq_eq_false_iff_ne]; omega
             clear hlk hnh hnw
             go_enter Tryz.func91, Tryz.ntmps91
             go_wp2_with fail
             go_ret
             exact ⟨ret_bool (by rw [HE.out]; rfl), HB0.out⟩
         · rw [decide_eq_false hh] at HE
           have f1 : ((nh : Int) == 0) = false := by rw [beq_eq_false_iff_ne]; omega
           clear hlk hnh hnw
           go_enter Tryz.func91, Tryz.ntmps91
           go_wp2_with fail
           go_ret
           exact ⟨ret_bool (by rw [HE.out]; rfl), HB0.out⟩
       · rw [decide_eq_false hl] at HE
         have f1 := empty_list hl
         clear hlk hnh hnw hl
         go_enter Tryz.func91, Tryz.ntmps91
         go_wp2_with fail
         go_ret
         exact ⟨ret_bool (by rw [HE.out]; rfl), HB0.out⟩
     · have HE := Lib.hid (alone_other (id := id) (label := label) (head := head) (words := words) (kids := kids) (by omega) hk0)
       have f0 : (kind == 0) = false := by rw [beq_eq_false_iff_ne]; exact hk0
       clear hlk hnh hnw hk0
       cases hk : decide (0 ≤ kind ∧ kind ≤ 7) with
       | false =>
         rw [hk] at HE HK
         clear hk
         go_enter Tryz.func91, Tryz.ntmps91
         go_wp2_with fail
         with_reducible refine (HK.out).mono ?_
         rintro e w1 ⟨rfl, rfl⟩
         go_wp2_with fail
         go_ret
         exact ⟨ret_bool (by rw [HE.out]; rfl), HB0.out⟩
       | true =>
         rw [hk] at HE HK
         clear hk
         cases hm : mayL label.data.toList with
         | false =>
           rw [hm] at HE HV
           clear hm
           go_enter Tryz.func91, Tryz.ntmps91
           go_wp2_with fail
           with_reducible refine (HK.out).mono ?_
           rintro e w1 ⟨rfl, rfl⟩
           go_wp2_with fail
           with_reducible refine (HV.out).mono ?_
           rintro e w2 ⟨rfl, hb2⟩
           go_wp2_with fail
           go_ret
           exact ⟨ret_bool (by rw [HE.out]; rfl), HB0.out.trans (hb2.mono HB0.out.size)⟩
         | true =>
           rw [hm] at HE HV
           clear hm
           go_enter Tryz.func91, Tryz.ntmps91
           go_wp2_with fail
           with_reducible refine (HK.out).mono ?_
           rintro e w1 ⟨rfl, rfl⟩
           go_wp2_with fail
           with_reducible refine (HV.out).mono ?_
           rintro e w2 ⟨rfl, hb2⟩
           have HX := Lib.hid (HB0.out.trans (hb2.mono HB0.out.size))
           have hx2 := HBx.out.below hb2 HL0.out
           have HX2 := Lib.hid hx2
           obtain ⟨p0, p1, p2, p3, p4, p5, p6, p7⟩ := hx2
           have hl2 := Nat.lt_of_lt_of_le HL0.out hb2.size
           have HL2 := Lib.hid hl2
           have HH := Lib.hid (validwords_any head nh ch Ah w2 (HWh.out.below HX.out) (by have := HWh.out.1; omega))
           clear hb2 hl2
           cases hh : rowB head with
           | false =>
             rw [hh] at HE HH
             clear hh
             go_wp2_with fail
             with_reducible refine (HH.out).mono ?_
             rintro e w3 ⟨rfl, hb3⟩
             go_wp2_with fail
             go_ret
             exact ⟨ret_bool (by rw [HE.out]; rfl), HX.out.trans (hb3.mono HX.out.size)⟩
           | true =>
             rw [hh] at HE HH
             clear hh
             go_wp2_with fail
             with_reducible refine (HH.out).mono ?_
             rintro e w3 ⟨rfl, hb3⟩
             have HY := Lib.hid (HX.out.trans (hb3.mono HX.out.size))
             obtain ⟨q0, q1, q2, q3, q4, q5, q6, q7⟩ := HX2.out.below hb3 HL2.out
             have HW := Lib.hid (validwords_any words nw cw Aw w3 (HWw.out.below HY.out) (by have := HWw.out.1; omega))
             clear hb3
             go_wp2_with fail
             with_reducible refine (HW.out).mono ?_
             rintro e w4 ⟨rfl, hb4⟩
             go_wp2_with fail
             go_ret
             exact ⟨ret_bool (by rw [HE.out]; rfl), HY.out.trans (hb4.mono HY.out.size)⟩
   · have HE := Lib.hid (alone_many (id := id) (kind := kind) (label := label) (head := head) (words := words) (kids := kids) (by omega))
     clear hlk hnh hnw
     go_enter Tryz.func91, Tryz.ntmps91
     go_wp2_with fail
     go_ret
     exact ⟨ret_bool HE.out.symm, HB0.out⟩
end Go.Proofs.YtmnbobcgjnickaaGreatDoor
