/-
  The reference's size, words and Few.
-/
import Derived.Test.YtiohjjgncbhimaaDoorVal2
namespace Go.Proofs.YtiohjjgncbhimaaDoor
open Go.RowKit (wrap32 wrap64 intOf Hid Below)
open Lab Lcs
def fewB (x : Ut) : Bool := decide (x.label.size ≤ 30) && shortB x.head && shortB x.words
set_option maxHeartbeats 4000000 in
set_option maxRecDepth 100000 in
theorem words_any (N : Nat) : ∀ (u : Ut) (v : Value) (w : World), u.count ≤ N → UtV w u v →
   Calls Tryd.prog 32 #[v] w fun e w' => e = .returned (.bool (u.all.all fewB)) ∧ Below w.heap.size w w' := by
 induction N with
 | zero => intro u v w hN _; have := count_pos u; omega
 | succ N ih =>
   intro u v w hN hV
   cases u with
   | mk id kind label head words kids =>
     obtain ⟨Ah, Aw, Ak, nh, ch, nw, cw, nk, ck, rfl, hok, hWh, hWw, hR⟩ := hV.open_
     have HR := Lib.hid hR
     have hnk := hR.2.1
     have hck := hR.2.2.1
     have HKl := Lib.hid hR.1
     rw [count_mk] at hN
     have HN := Lib.hid hN
     have HI := Lib.hid ih
     have HBx := Lib.hid (Box8.new w 27 (.int .i64 id.x) (.int .i64 id.y) (.int .i64 id.z) (.int .i64 kind) (.string label) (.slice Ah nh ch) (.slice Aw nw cw) (.slice Ak nk ck))
     have hb0 := alloc_below w (.cells #[.int .i64 id.x, .int .i64 id.y, .int .i64 id.z, .int .i64 kind, .string label, .slice Ah nh ch, .slice Aw nw cw, .slice Ak nk ck] 27)
     have HB0 := Lib.hid hb0
     have HH := Lib.hid (short_any head nh ch Ah _ (hWh.below hb0))
     have HW := Lib.hid (short_any words nw cw Aw _ (hWw.below hb0))
     obtain ⟨n0, n1, n2, n3, n4, n5, n6, n7⟩ := HBx.out
     have HF : Hid (fewB (Ut.mk id kind label head words kids) = (decide (label.size ≤ 30) && shortB head && shortB words)) := Lib.hid rfl
     clear hR hV ih hN hok hWh hWw hb0
     by_cases hl : label.size ≤ 30
     case neg =>
       have hl' : 30 < label.size := by omega
       have HE := Lib.hid (all_bad_self (p := fewB) (u := Ut.mk id kind label head words kids) (by rw [HF.out, decide_eq_false hl]; rfl))
       clear hl
       go_enter Tryd.func32, Tryd.ntmps32
       go_wp2_with fail
       go_ret
       exact ⟨ret_bool HE.out.symm, HB0.out⟩
     cases hh : shortB head with
     | false =>
       have HE := Lib.hid (all_bad_self (p := fewB) (u := Ut.mk id kind label head words kids) (by rw [HF.out, hh, Bool.and_false]; rfl))
       rw [hh] at HH
       clear hh
       go_enter Tryd.func32, Tryd.ntmps32
       go_wp2_with (go_at_call 47; ((with_reducible refine (HH.out).mono ?_); rintro e w1 ⟨rfl, rfl⟩))
       go_ret
       exact ⟨ret_bool HE.out.symm, HB0.out⟩
     | true =>
       cases hw : shortB words with
       | false =>
         have HE := Lib.hid (all_bad_self (p := fewB) (u := Ut.mk id kind label head words kids) (by rw [HF.out, hw, Bool.and_false]))
         rw [hh] at HH
         rw [hw] at HW
         clear hh hw
         go_enter Tryd.func32, Tryd.ntmps32
         go_wp2_with (first
           | (go_at_call 47; ((with_reducible refine (HH.out).mono ?_); rintro e w1 ⟨rfl, rfl⟩))
           | (go_at_call 47; ((with_reducible refine (HW.out).mono ?_); rintro e w1 ⟨rfl, rfl⟩)))
         go_ret
         exact ⟨ret_bool HE.out.symm, HB0.out⟩
       | true =>
         have HP : Hid (fewB (Ut.mk id kind label head words kids) = true) := Lib.hid (by rw [HF.out, hh, hw, decide_eq_true hl]; rfl)
         rw [hh] at HH
         rw [hw] at HW
         clear hh hw
         go_enter Tryd.func32, Tryd.ntmps32
         go_wp2_with (first
           | (go_at_call 47; ((with_reducible refine (HH.out).mono ?_); rintro e w1 ⟨rfl, rfl⟩))
           | (go_at_call 47; ((with_reducible refine (HW.out).mono ?_); rintro e w1 ⟨rfl, rfl⟩)))
         go_loopw [3] (fun i wr => ∃ k : Nat, k ≤ nk ∧ i = .int .i64 k ∧ (Ut.alls (kids.take k)).all fewB = true ∧ Below (w.heap.size + 1) (w.alloc (.cells #[.int .i64 id.x, .int .i64 id.y, .int .i64 id.z, .int .i64 kind, .string label, .slice Ah nh ch, .slice Aw nw cw, .slice Ak nk ck] 27)) wr) (fun i _ => nk - (intOf i).toNat)
         case atStart => exact ⟨0, Nat.zero_le _, rfl, rfl, Below.refl _ _⟩
         case round =>
           rename World => wr
           obtain ⟨k, hk, rfl, hal, hbr⟩ := hrel
           have HAl := Lib.hid hal
           have HBr := Lib.hid hbr
           obtain ⟨hbw, hsz⟩ := in_box hbr
           have HBw := Lib.hid hbw
           obtain ⟨p0, p1, p2, p3, p4, p5, p6, p7⟩ := HBx.out.below hbr (Nat.lt_succ_self _)
           clear hal hbr
           by_cases hlt : k < nk
           · obtain ⟨b, off, u, i1, i2, i3, kd, lb, Bh, Bw, Bk, mh, dh, mw, dw, mk, dk, rfl, hblt, hu, hUV, c0, c1, c2, c3, c4, c5, c6, c7⟩ := HR.out.at_ hbw hlt
             have hcm := counts_mem hu
             have hN := HN.out
             have HC := Lib.hid (HI.out u _ wr (by omega) hUV)
             have HU := Lib.hid hu
             have hbz := hbw.size
             clear hu hUV hcm hN hbw
             cases hp : u.all.all fewB with
             | false =>
               rw [hp] at HC
               have HE := Lib.hid (all_bad_kid (id := id) (kind := kind) (label := label) (head := head) (words := words) HU.out hp)
               clear hp
               go_wp2_with (go_at_call 32; ((with_reducible refine (HC.out).mono ?_); rintro e w2 ⟨rfl, hb2⟩))
               go_ret
               exact ⟨ret_bool HE.out.symm, HBw.out.trans (hb2.mono hbz)⟩
             | true =>
               rw [hp] at HC
               have HE := Lib.hid (all_step HU.out HAl.out hp)
               clear hp
               go_wp2_with (go_at_call 32; ((with_reducible refine (HC.out).mono ?_); rintro e w2 ⟨rfl, hb2⟩))
               go_roundw
               case rel => exact ⟨k + 1, by omega, by go_num, HE.out, HBr.out.trans (hb2.mono hsz)⟩
               case measure => simp [intOf]; omega
           · obtain rfl : k = nk := by omega
             have HE : Hid ((Ut.mk id kind label head words kids).all.all fewB = true) := Lib.hid (all_good_kids HP.out (by
               have h := HAl.out
               rwa [List.take_of_length_le (by rw [← HKl.out]; exact Nat.le_refl _)] at h))
             go_wp2_with fail
             go_ret
             exact ⟨ret_bool HE.out.symm, HBw.out⟩
def Small (most : Nat) (u : Ut) : Prop := u.count ≤ most ∧ u.depth ≤ 20 ∧ u.all.all fewB = true
theorem Small.tame {most : Nat} {u : Ut} (h : Small most u) (hm : most ≤ 1000) : Tame u := by
 obtain ⟨h1, h2, h3⟩ := h
 refine ⟨by omega, fun x hx => ?_⟩
 have h4 := List.all_eq_true.1 h3 x hx
 unfold fewB shortB at h4
 simp only [Bool.and_eq_true, decide_eq_true_eq] at h4
 exact ⟨by omega, by omega, by omega⟩
end Go.Proofs.YtiohjjgncbhimaaDoor
