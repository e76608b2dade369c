/-
  The contracts of Depth, and of the reference's Count and Depth.
-/
import Derived.Test.YtmnbobcgjnickaaGreatDoorCnt
namespace Go.Proofs.YtmnbobcgjnickaaGreatDoor
open Go.RowKit (wrap32 wrap64 intOf Hid Below)
open Lab Lcs
theorem in_box {w wr : World} {o : Obj} (h : Below (w.heap.size + 1) (w.alloc o) wr) : Below w.heap.size w wr ∧ w.heap.size < wr.heap.size := by
 have h1 := alloc_below w o
 have h2 := h.size
 have h3 := alloc_lt w o
 exact ⟨h1.trans (h.mono (Nat.le_succ _)), by omega⟩
set_option maxHeartbeats 4000000 in
set_option maxRecDepth 100000 in
theorem depth_any (N : Nat) : ∀ (u : Ut) (v : Value) (w : World), u.count ≤ N → u.depth ≤ 1000000000 → UtV w u v →
   Calls Tryz.prog 76 #[v] w fun e w' => e = .returned (.int .i64 (u.depth : Nat)) ∧ Below w.heap.size w w' := by
 induction N with
 | zero => intro u v w hN _ _; have := count_pos u; omega
 | succ N ih =>
   intro u v w hN hM hV
   cases u with
   | mk id kind label head words kids =>
     obtain ⟨Ah, Aw, Ak, nh, ch, nw, cw, nk, ck, rfl, hok, hWh, hWw, hR⟩ := hV.open_
     have HR := Lib.hid hR
     have hnk := hR.2.1
     have hck := hR.2.2.1
     have HKl := Lib.hid hR.1
     rw [count_mk] at hN
     rw [depth_mk] at hM ⊢
     have HN := Lib.hid hN
     have HM := Lib.hid hM
     have HI := Lib.hid ih
     clear hR hV ih hN hM hok hWh hWw
     obtain ⟨_, _, _, _, _, _, _, n7⟩ := Box8.new w 27 (.int .i64 id.x) (.int .i64 id.y) (.int .i64 id.z) (.int .i64 kind) (.string label) (.slice Ah nh ch) (.slice Aw nw cw) (.slice Ak nk ck)
     have hb0 := alloc_below w (.cells #[.int .i64 id.x, .int .i64 id.y, .int .i64 id.z, .int .i64 kind, .string label, .slice Ah nh ch, .slice Aw nw cw, .slice Ak nk ck] 27)
     go_enter Tryz.func76, Tryz.ntmps76
     go_wp2_with fail
     go_loopw [3, 9] (fun n i wr => ∃ k : Nat, k ≤ nk ∧ i = .int .i64 k ∧ n = .int .i64 ((Ut.depths (kids.take k) : Nat) : Int) ∧ Below w.heap.size w wr) (fun _ i _ => nk - (intOf i).toNat)
     case atStart => exact ⟨0, Nat.zero_le _, rfl, rfl, hb0⟩
     case round =>
       obtain ⟨k, hk, rfl, rfl, hbr⟩ := hrel
       have hbz := hbr.size
       by_cases hlt : k < nk
       · obtain ⟨b, off, u, i1, i2, i3, kd, lb, Bh, Bw, Bk, mh, dh, mw, dw, mk, dk, rfl, hblt, hu, hUV, c0, c1, c2, c3, c4, c5, c6, c7⟩ := HR.out.at_ hbr hlt
         have hcm := counts_mem hu
         have hdk := depth_kid hu
         have hct := depths_take hu
         obtain ⟨a, ha⟩ : ∃ a, a = Ut.depths (kids.take k) := ⟨_, rfl⟩
         obtain ⟨d, hd⟩ : ∃ d, d = u.depth := ⟨_, rfl⟩
         rw [← ha, ← hd] at hct
         rw [← hd] at hdk
         have hN := HN.out
         have hM := HM.out
         have had : d ≤ 1000000000 := by omega
         have hbX := alloc_below wr (.cells #[.int .i64 i1, .int .i64 i2, .int .i64 i3, .int .i64 kd, .string lb, .slice Bh mh dh, .slice Bw mw dw, .slice Bk mk dk] 27)
         obtain ⟨n0, n1, n2, n3, n4, n5, n6, n7⟩ := Box8.new wr 27 (.int .i64 i1) (.int .i64 i2) (.int .i64 i3) (.int .i64 kd) (.string lb) (.slice Bh mh dh) (.slice Bw mw dw) (.slice Bk mk dk)
         have HC := Lib.hid (HI.out u _ _ (by omega) (by omega) (hUV.below hbX))
         rw [← hd] at HC
         have HX := Lib.hid (hbr.trans (hbX.mono hbz))
         have HT := Lib.hid hct
         rw [← ha]
         clear ha hd hct hcm hdk hN hM hbX hu hUV
         by_cases hmx : a ≤ 1 + d
         · have HE : Hid (max a (1 + d) = 1 + d) := Lib.hid (by omega)
           go_wp2_with (go_at_call 76; ((with_reducible refine (HC.out).mono ?_); rintro e w2 ⟨rfl, hb2⟩))
           all_goals go_roundw
           all_goals first
             | (case rel => exact ⟨k + 1, by omega, by go_num, by rw [HT.out, HE.out]; go_num, HX.out.trans (hb2.mono HX.out.size)⟩)
             | (case measure => simp [intOf]; omega)
         · have HE : Hid (max a (1 + d) = a) := Lib.hid (by omega)
           go_wp2_with (go_at_call 76; ((with_reducible refine (HC.out).mono ?_); rintro e w2 ⟨rfl, hb2⟩))
           all_goals go_roundw
           all_goals first
             | (case rel => exact ⟨k + 1, by omega, by go_num, by rw [HT.out, HE.out]; go_num, HX.out.trans (hb2.mono HX.out.size)⟩)
             | (case measure => simp [intOf]; omega)
       · obtain rfl : k = nk := by omega
         have HT : Hid (kids.take k = kids) := Lib.hid (List.take_of_length_le (by rw [← HKl.out]; exact Nat.le_refl _))
         rw [HT.out]
         go_wp2_with fail
         go_ret
         exact ⟨rfl, hbr⟩
set_option maxHeartbeats 4000000 in
set_option maxRecDepth 100000 in
theorem rcount_any (N : Nat) : ∀ (u : Ut) (v : Value) (w : World), u.count ≤ N → u.count ≤ 1000000000 → UtV w u v →
   Calls Tryz.prog 29 #[v] w fun e w' => e = .returned (.int .i64 (u.count : Nat)) ∧ Below w.heap.size w w' := by
 induction N with
 | zero => intro u v w hN _ _; have := count_pos u; omega
 | succ N ih =>
   intro u v w hN hM hV
   cases u with
   | mk id kind label head words kids =>
     obtain ⟨Ah, Aw, Ak, nh, ch, nw, cw, nk, ck, rfl, hok, hWh, hWw, hR⟩ := hV.open_
     have HR := Lib.hid hR
     have hnk := hR.2.1
     have hck := hR.2.2.1
     have HKl := Lib.hid hR.1
     rw [count_mk] at hN hM ⊢
     have HN := Lib.hid hN
     have HM := Lib.hid hM
     have HI := Lib.hid ih
     clear hR hV ih hN hM hok hWh hWw
     have HBx := Lib.hid (Box8.new w 27 (.int .i64 id.x) (.int .i64 id.y) (.int .i64 id.z) (.int .i64 kind) (.string label) (.slice Ah nh ch) (.slice Aw nw cw) (.slice Ak nk ck))
     go_enter Tryz.func29, Tryz.ntmps29
     go_wp2_with fail
     go_loopw [3, 4] (fun n i wr => ∃ k : Nat, k ≤ nk ∧ i = .int .i64 k ∧ n = .int .i64 ((1 + Ut.counts (kids.take k) : Nat) : Int) ∧ Below (w.heap.size + 1) (w.alloc (.cells #[.int .i64 id.x, .int .i64 id.y, .int .i64 id.z, .int .i64 kind, .string label, .slice Ah nh ch, .slice Aw nw cw, .slice Ak nk ck] 27)) wr) (fun _ i _ => nk - (intOf i).toNat)
     case atStart => exact ⟨0, Nat.zero_le _, rfl, rfl, Below.refl _ _⟩
     case round =>
       obtain ⟨k, hk, rfl, rfl, hbr⟩ := hrel
       have HBr := Lib.hid hbr
       obtain ⟨hbw, hsz⟩ := in_box hbr
       obtain ⟨_, _, _, _, _, _, _, n7⟩ := HBx.out.below hbr (Nat.lt_succ_self _)
       clear hbr
       by_cases hlt : k < nk
       · obtain ⟨b, off, u, i1, i2, i3, kd, lb, Bh, Bw, Bk, mh, dh, mw, dw, mk, dk, rfl, hblt, hu, hUV, c0, c1, c2, c3, c4, c5, c6, c7⟩ := HR.out.at_ hbw hlt
         have hcm := counts_mem hu
         have hct := counts_take hu
         obtain ⟨a, ha⟩ : ∃ a, a = Ut.counts (kids.take k) := ⟨_, rfl⟩
         obtain ⟨d, hd⟩ : ∃ d, d = u.count := ⟨_, rfl⟩
         rw [← ha, ← hd] at hcm hct
         have hN := HN.out
         have hM := HM.out
         have had : a + d ≤ 1000000000 := by omega
         have HC := Lib.hid (HI.out u _ _ (by omega) (by omega) hUV)
         rw [← hd] at HC
         have HT := Lib.hid hct
         have g1 : IntKind.i64.wrap ((1 : Int) + a + d) = 1 + a + d := by rw [IntKind.wrap_i64]; omega
         rw [← ha]
         clear ha hd hct hcm hN hM hu hUV
         go_wp2_with (go_at_call 29; ((with_reducible refine (HC.out).mono ?_); rintro e w2 ⟨rfl, hb2⟩))
         go_roundw
         case rel => exact ⟨k + 1, by omega, by go_num, by rw [HT.out]; go_num, HBr.out.trans (hb2.mono hsz)⟩
         case measure => simp [intOf]; omega
       · obtain rfl : k = nk := by omega
         have HT : Hid (kids.take k = kids) := Lib.hid (List.take_of_length_le (by rw [← HKl.out]; exact Nat.le_refl _))
         rw [HT.out]
         go_wp2_with fail
         go_ret
         exact ⟨rfl, hbw⟩
set_option maxHeartbeats 4000000 in
set_option maxRecDepth 100000 in
theorem rdepth_any (N : Nat) : ∀ (u : Ut) (v : Value) (w : World), u.count ≤ N → u.depth ≤ 1000000000 → UtV w u v →
   Calls Tryz.prog 38 #[v] w fun e w' => e = .returned (.int .i64 (u.depth : Nat)) ∧ Below w.heap.size w w' := by
 induction N with
 | zero => intro u v w hN _ _; have := count_pos u; omega
 | succ N ih =>
   intro u v w hN hM hV
   cases u with
   | mk id kind label head words kids =>
     obtain ⟨Ah, Aw, Ak, nh, ch, nw, cw, nk, ck, rfl, hok, hWh, hWw, hR⟩ := hV.open_
     have HR := Lib.hid hR
     have hnk := hR.2.1
     have hck := hR.2.2.1
     have HKl := Lib.hid hR.1
     rw [count_mk] at hN
     rw [depth_mk] at hM ⊢
     have HN := Lib.hid hN
     have HM := Lib.hid hM
     have HI := Lib.hid ih
     clear hR hV ih hN hM hok hWh hWw
     have HBx := Lib.hid (Box8.new w 27 (.int .i64 id.x) (.int .i64 id.y) (.int .i64 id.z) (.int .i64 kind) (.string label) (.slice Ah nh ch) (.slice Aw nw cw) (.slice Ak nk ck))
     go_enter Tryz.func38, Tryz.ntmps38
     go_wp2_with fail
     go_loopw [3, 4] (fun n i wr => ∃ k : Nat, k ≤ nk ∧ i = .int .i64 k ∧ n = .int .i64 ((Ut.depths (kids.take k) : Nat) : Int) ∧ Below (w.heap.size + 1) (w.alloc (.cells #[.int .i64 id.x, .int .i64 id.y, .int .i64 id.z, .int .i64 kind, .string label, .slice Ah nh ch, .slice Aw nw cw, .slice Ak nk ck] 27)) wr) (fun _ i _ => nk - (intOf i).toNat)
     case atStart => exact ⟨0, Nat.zero_le _, rfl, rfl, Below.refl _ _⟩
     case round =>
       obtain ⟨k, hk, rfl, rfl, hbr⟩ := hrel
       have HBr := Lib.hid hbr
       obtain ⟨hbw, hsz⟩ := in_box hbr
       obtain ⟨_, _, _, _, _, _, _, n7⟩ := HBx.out.below hbr (Nat.lt_succ_self _)
       clear hbr
       by_cases hlt : k < nk
       · obtain ⟨b, off, u, i1, i2, i3, kd, lb, Bh, Bw, Bk, mh, dh, mw, dw, mk, dk, rfl, hblt, hu, hUV, c0, c1, c2, c3, c4, c5, c6, c7⟩ := HR.out.at_ hbw hlt
         have hcm := counts_mem hu
         have hdk := depth_kid hu
         have hct := depths_take hu
         obtain ⟨a, ha⟩ : ∃ a, a = Ut.depths (kids.take k) := ⟨_, rfl⟩
         obtain ⟨d, hd⟩ : ∃ d, d = u.depth := ⟨_, rfl⟩
         rw [← ha, ← hd] at hct
         rw [← hd] at hdk
         have hN := HN.out
         have hM := HM.out
         have had : d ≤ 1000000000 := by omega
         have HC := Lib.hid (HI.out u _ _ (by omega) (by omega) hUV)
         rw [← hd] at HC
         have HT := Lib.hid hct
         rw [← ha]
         clear ha hd hct hcm hdk hN hM hu hUV
         by_cases hmx : a ≤ 1 + d
         · have HE : Hid (max a (1 + d) = 1 + d) := Lib.hid (by omega)
           go_wp2_with (go_at_call 38; ((with_reducible refine (HC.out).mono ?_); rintro e w2 ⟨rfl, hb2⟩))
           all_goals go_roundw
           all_goals first
             | (case rel => exact ⟨k + 1, by omega, by go_num, by rw [HT.out, HE.out]; go_num, HBr.out.trans (hb2.mono hsz)⟩)
             | (case measure => simp [intOf]; omega)
         · have HE : Hid (max a (1 + d) = a) := Lib.hid (by omega)
           go_wp2_with (go_at_call 38; ((with_reducible refine (HC.out).mono ?_); rintro e w2 ⟨rfl, hb2⟩))
           all_goals go_roundw
           all_goals first
             | (case rel => exact ⟨k + 1, by omega, by go_num, by rw [HT.out, HE.out]; go_num, HBr.out.trans (hb2.mono hsz)⟩)
             | (case measure => simp [intOf]; omega)
       · obtain rfl : k = nk := by omega
         have HT : Hid (kids.take k = kids) := Lib.hid (List.take_of_length_le (by rw [← HKl.out]; exact Nat.le_refl _))
         rw [HT.out]
         go_wp2_with fail
         go_ret
         exact ⟨rfl, hbw⟩
end Go.Proofs.YtmnbobcgjnickaaGreatDoor
