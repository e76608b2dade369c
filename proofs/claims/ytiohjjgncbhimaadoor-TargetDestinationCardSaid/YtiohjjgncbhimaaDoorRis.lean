/-
  The reference: Right's contract.
-/
import Derived.Test.YtiohjjgncbhimaaDoorRig
namespace Go.Proofs.YtiohjjgncbhimaaDoor
open Go.RowKit (wrap32 wrap64 intOf Hid Below)
open Lab Lcs
set_option maxHeartbeats 4000000 in
set_option maxRecDepth 100000 in
theorem right_any (N : Nat) : ∀ (u : Ut) (v : Value) (w : World), u.count ≤ N → Tame u → UtV w u v →
   Calls Tryd.prog 48 #[v] w fun e w' => e = .returned (.bool (rightB u)) ∧ Below w.heap.size w w' := by
 induction N with
 | zero => intro u v w hN _ _; have := count_pos u; omega
 | succ N ih =>
   intro u v w hN hM hV
   have hV0 := hV
   have hself := hM.2 u (self_all u)
   cases u with
   | mk id kind label head words kids =>
     obtain ⟨Ah, Aw, Ak, nh, ch, nw, cw, nk, ck, rfl, hok, hWh, hWw, hR⟩ := hV.open_
     have HR := Lib.hid hR
     have hnk := hR.2.1
     have hck := hR.2.2.1
     have HKl := Lib.hid hR.1
     have HI : Hid (∀ (k : Nat) (u : Ut), kids[k]? = some u → ∀ (v : Value) (W : World), UtV W u v → Calls Tryd.prog 48 #[v] W fun e w' => e = .returned (.bool (rightB u)) ∧ Below W.heap.size W w') := Lib.hid fun k u hu v W hVu => by
       have h1 : u.count < (Ut.mk id kind label head words kids).count := kid_lt hu
       exact ih u v W (by omega) ⟨by have := hM.1; omega, fun y hy => hM.2 y (kid_all hu y hy)⟩ hVu
     have hb0 := alloc_below w (.cells #[.int .i64 id.x, .int .i64 id.y, .int .i64 id.z, .int .i64 kind, .string label, .slice Ah nh ch, .slice Aw nw cw, .slice Ak nk ck] 27)
     have HB0 := Lib.hid hb0
     have HBx := Lib.hid (Box8.new w 27 (.int .i64 id.x) (.int .i64 id.y) (.int .i64 id.z) (.int .i64 kind) (.string label) (.slice Ah nh ch) (.slice Aw nw cw) (.slice Ak nk ck))
     have HL0 := Lib.hid (alloc_lt w (.cells #[.int .i64 id.x, .int .i64 id.y, .int .i64 id.z, .int .i64 kind, .string label, .slice Ah nh ch, .slice Aw nw cw, .slice Ak nk ck] 27))
     have HA := Lib.hid (ralone_any _ _ _ (hV0.below hb0) hself)
     obtain ⟨n0, n1, n2, n3, n4, n5, n6, n7⟩ := HBx.out
     clear hR hV hV0 ih hN hM hok hWh hWw hself hb0
     cases ha : aloneB (Ut.mk id kind label head words kids) with
     | false =>
       rw [ha] at HA
       have HE := Lib.hid (right_alone ha)
       clear ha
       go_enter Tryd.func48, Tryd.ntmps48
       go_wp2_with fail
       with_reducible refine (HA.out).mono ?_
       rintro e w1 ⟨rfl, hb1⟩
       go_wp2_with fail
       go_ret
       exact ⟨ret_bool HE.out.symm, HB0.out.trans (hb1.mono HB0.out.size)⟩
     | true =>
       rw [ha] at HA
       have HAl := Lib.hid ha
       clear ha
       go_enter Tryd.func48, Tryd.ntmps48
       go_wp2_with fail
       with_reducible refine (HA.out).mono ?_
       rintro e w1 ⟨rfl, hb1⟩
       have HS1 : Hid (Below (w.heap.size + 1) (w.alloc (.cells #[.int .i64 id.x, .int .i64 id.y, .int .i64 id.z, .int .i64 kind, .string label, .slice Ah nh ch, .slice Aw nw cw, .slice Ak nk ck] 27)) w1) := Lib.hid (hb1.mono (by simp))
       clear hb1
       go_wp2_with fail
       go_loopw [3] (fun i wr => ∃ k : Nat, k ≤ nk ∧ i = .int .i64 k ∧ rightTo kind (kids.take k) ∧ Below (w.heap.size + 1) (w.alloc (.cells #[.int .i64 id.x, .int .i64 id.y, .int .i64 id.z, .int .i64 kind, .string label, .slice Ah nh ch, .slice Aw nw cw, .slice Ak nk ck] 27)) wr) (fun i _ => nk - (intOf i).toNat)
       case atStart => exact ⟨0, Nat.zero_le _, rfl, ⟨⟨fun _ h => by simp at h, by simp⟩, fun _ h => by simp at h⟩, HS1.out⟩
       case round =>
         rename World => wr
         obtain ⟨k, hk, rfl, hto, hbr⟩ := hrel
         have HTo := Lib.hid hto
         have HBr := Lib.hid hbr
         obtain ⟨hbw, hsz⟩ := in_box hbr
         have HBw := Lib.hid hbw
         have HSz := Lib.hid hsz
         obtain ⟨p0, p1, p2, p3, p4, p5, p6, p7⟩ := HBx.out.below hbr (Nat.lt_succ_self _)
         have P3 := Lib.hid p3
         have P7 := Lib.hid p7
         clear hto hbr
         by_cases hlt : k < nk
         · obtain ⟨b, off, u, i1, i2, i3, kd, lb, Bh, Bw, Bk, mh, dh, mw, dw, mk, dk, rfl, hblt, hu, hUV, c0, c1, c2, c3, c4, c5, c6, c7⟩ := HR.out.at_ hbw hlt
           obtain ⟨_, hk1, hk2, _, _⟩ := hUV.parts
           have HNe : Hid (∀ W, Calls Tryd.prog 63 #[.int .i64 kind, .int .i64 kd] W fun e w' => e = .returned (.bool (nestsB kind kd)) ∧ W = w') := Lib.hid fun W => nests_any kind kd W
           have HRi : Hid (∀ W, Below wr.heap.size wr W → Calls Tryd.prog 48 #[.agg #[.int .i64 i1, .int .i64 i2, .int .i64 i3, .int .i64 kd, .string lb, .slice Bh mh dh, .slice Bw mw dw, .slice Bk mk dk]] W fun e w' => e = .returned (.bool (rightB u)) ∧ Below W.heap.size W w') := Lib.hid fun W hb => HI.out k u hu _ W (hUV.below hb)
           have HS : Hid (∀ W, Below wr.heap.size wr W → W.cell? ⟨w.heap.size, 3, none⟩ = some (.int .i64 kind) ∧ W.cell? ⟨w.heap.size, 7, none⟩ = some (.slice (some ⟨b, off, none⟩) nk ck) ∧ W.cell? ⟨b, off + k * 8, none⟩ = some (.int .i64 i1) ∧ W.cell? ⟨b, off + k * 8 + 1, none⟩ = some (.int .i64 i2) ∧ W.cell? ⟨b, off + k * 8 + 2, none⟩ = some (.int .i64 i3) ∧ W.cell? ⟨b, off + k * 8 + 3, none⟩ = some (.int .i64 kd) ∧ W.cell? ⟨b, off + k * 8 + 4, none⟩ = some (.string lb) ∧ W.cell? ⟨b, off + k * 8 + 5, none⟩ = some (.slice Bh mh dh) ∧ W.cell? ⟨b, off + k * 8 + 6, none⟩ = some (.slice Bw mw dw) ∧ W.cell? ⟨b, off + k * 8 + 7, none⟩ = some (.slice Bk mk dk)) := Lib.hid fun W hb => by
             have g1 : b < wr.heap.size := by have := HSz.out; omega
             have g0 := HSz.out
             exact ⟨(hb.cell (p := ⟨w.heap.size, 3, none⟩) g0).trans P3.out, (hb.cell (p := ⟨w.heap.size, 7, none⟩) g0).trans P7.out,
               (hb.cell (p := ⟨b, off + k * 8, none⟩) g1).trans c0, (hb.cell (p := ⟨b, off + k * 8 + 1, none⟩) g1).trans c1, (hb.cell (p := ⟨b, off + k * 8 + 2, none⟩) g1).trans c2, (hb.cell (p := ⟨b, off + k * 8 + 3, none⟩) g1).trans c3, (hb.cell (p := ⟨b, off + k * 8 + 4, none⟩) g1).trans c4, (hb.cell (p := ⟨b, off + k * 8 + 5, none⟩) g1).trans c5, (hb.cell (p := ⟨b, off + k * 8 + 6, none⟩) g1).trans c6, (hb.cell (p := ⟨b, off + k * 8 + 7, none⟩) g1).trans c7⟩
           have HU := Lib.hid hu
           have HKd : Hid (u.kind = kd) := Lib.hid hk1
           have HLb : Hid (u.label = lb) := Lib.hid hk2
           clear hu hUV hk1 hk2 hbw
           cases hn : nestsB kind kd with
           | false =>
             rw [hn] at HNe
             have HE := Lib.hid (right_kids (kids_kind (id := id) (kind := kind) (label := label) (head := head) (words := words) HU.out (by rw [HKd.out]; exact hn)))
             clear hn
             have HNq : Hid (∀ W, Calls Tryd.prog 63 #[.int .i64 kind, .int .i64 kd] W fun e w' => e = .returned (.bool false) ∧ w' = W) := Lib.hid fun W => (HNe.out W).mono fun _ _ ⟨a, b⟩ => ⟨a, b.symm⟩
             go_wp2_with fail
             go_quiet (exact Calls.quiet_of_same (HNq.out _))
             go_wp2_with fail
             go_ret
             exact ⟨ret_bool HE.out.symm, below_drawn HBw.out _⟩
           | true =>
             rw [hn] at HNe
             have HNs := Lib.hid hn
             clear hn
             cases hr : rightB u with
             | false =>
               rw [hr] at HRi
               have HE := Lib.hid (right_kid (id := id) (kind := kind) (label := label) (head := head) (words := words) HU.out hr)
               clear hr
               go_wp2_with fail
               go_region_held3 (fun w' => w'.cell? ⟨w.heap.size, 3, none⟩ = some (.int .i64 kind) ∧ w'.cell? ⟨w.heap.size, 7, none⟩ = some (.slice (some ⟨b, off, none⟩) nk ck) ∧ w'.cell? ⟨b, off + k * 8, none⟩ = some (.int .i64 i1) ∧ w'.cell? ⟨b, off + k * 8 + 1, none⟩ = some (.int .i64 i2) ∧ w'.cell? ⟨b, off + k * 8 + 2, none⟩ = some (.int .i64 i3) ∧ w'.cell? ⟨b, off + k * 8 + 3, none⟩ = some (.int .i64 kd) ∧ w'.cell? ⟨b, off + k * 8 + 4, none⟩ = some (.string lb) ∧ w'.cell? ⟨b, off + k * 8 + 5, none⟩ = some (.slice Bh mh dh) ∧ w'.cell? ⟨b, off + k * 8 + 6, none⟩ = some (.slice Bw mw dw) ∧ w'.cell? ⟨b, off + k * 8 + 7, none⟩ = some (.slice Bk mk dk)) (with_reducible (first | exact HS.out _ hz9 | exact HS.out _ (Below.refl _ _).drew | exact HS.out _ (Below.refl _ _))) (first
                 | (go_at_call 63; with_reducible refine (HNe.out _).mono ?_; rintro e w8 ⟨rfl, rfl⟩)
                 | (go_at_call 48; with_reducible refine (HRi.out _ ?_).mono ?_; (with_reducible (first | exact (Below.refl _ _).drew | exact Below.refl _ _)); rintro e w9 ⟨rfl, hb9⟩; first | (have hz9 := undrew hb9) | (have hz9 := hb9)))
               go_wp2_with fail
               go_ret
               exact ⟨ret_bool HE.out.symm, HBw.out.trans (hz9.mono (Nat.le_of_lt HSz.out))⟩
             | true =>
               rw [hr] at HRi
               have HRt := Lib.hid hr
               clear hr
               go_wp2_with fail
               go_region_held3 (fun w' => w'.cell? ⟨w.heap.size, 3, none⟩ = some (.int .i64 kind) ∧ w'.cell? ⟨w.heap.size, 7, none⟩ = some (.slice (some ⟨b, off, none⟩) nk ck) ∧ w'.cell? ⟨b, off + k * 8, none⟩ = some (.int .i64 i1) ∧ w'.cell? ⟨b, off + k * 8 + 1, none⟩ = some (.int .i64 i2) ∧ w'.cell? ⟨b, off + k * 8 + 2, none⟩ = some (.int .i64 i3) ∧ w'.cell? ⟨b, off + k * 8 + 3, none⟩ = some (.int .i64 kd) ∧ w'.cell? ⟨b, off + k * 8 + 4, none⟩ = some (.string lb) ∧ w'.cell? ⟨b, off + k * 8 + 5, none⟩ = some (.slice Bh mh dh) ∧ w'.cell? ⟨b, off + k * 8 + 6, none⟩ = some (.slice Bw mw dw) ∧ w'.cell? ⟨b, off + k * 8 + 7, none⟩ = some (.slice Bk mk dk)) (with_reducible (first | exact HS.out _ hz9 | exact HS.out _ (Below.refl _ _).drew | exact HS.out _ (Below.refl _ _))) (first
                 | (go_at_call 63; with_reducible refine (HNe.out _).mono ?_; rintro e w8 ⟨rfl, rfl⟩)
                 | (go_at_call 48; with_reducible refine (HRi.out _ ?_).mono ?_; (with_reducible (first | exact (Below.refl _ _).drew | exact Below.refl _ _)); rintro e w9 ⟨rfl, hb9⟩; first | (have hz9 := undrew hb9) | (have hz9 := hb9)))
               have HZ9 := Lib.hid hz9
               clear hz9
               have HB9 := Lib.hid (HBw.out.trans (HZ9.out.mono (Nat.le_of_lt HSz.out)))
               obtain ⟨s3, s7, r0, r1, r2, r3, r4, r5, r6, r7⟩ := HS.out _ HZ9.out
               have HB9r : Hid (Below (w.heap.size + 1) (w.alloc (.cells #[.int .i64 id.x, .int .i64 id.y, .int .i64 id.z, .int .i64 kind, .string label, .slice Ah nh ch, .slice Aw nw cw, .slice (some ⟨b, off, none⟩) nk ck] 27)) w9) := Lib.hid (HBr.out.trans (HZ9.out.mono HSz.out))
               clear c0 c1 c2 c3 c4 c5 c6 c7 p0 p1 p2 p3 p4 p5 p6
               go_wp2_with fail
               go_loopw [4] (fun i wy => ∃ j : Nat, j ≤ k ∧ i = .int .i64 j ∧ (∀ (jj : Nat) (x : Ut), jj < j → kids[jj]? = some x → ¬ keyK x = keyK u) ∧ ∃ q, wy = w9.drewN q) (fun i _ => k - (intOf i).toNat)
               case atStart => exact ⟨0, Nat.zero_le _, rfl, fun jj x h => absurd h (Nat.not_lt_zero _), 0, rfl⟩
               case round =>
                 obtain ⟨j, hj, rfl, hno, q, rfl⟩ := hrel
                 have HNo := Lib.hid hno
                 clear hno
                 by_cases hjk : j < k
                 · obtain ⟨_, _, uj, _, _, _, kj, lj, _, _, _, _, _, _, _, _, _, hAj, _, huj, hUj, _, _, _, d3, d4, _, _, _⟩ := HR.out.at_ HB9.out (show j < nk by omega)
                   injection hAj with hAj
                   injection hAj with e1 e2 _
                   subst e1 e2
                   obtain ⟨_, hj1, hj2, _, _⟩ := hUj.parts
                   have HUj := Lib.hid huj
                   have HKj : Hid (keyK uj = (kj, lj)) := Lib.hid (by unfold keyK; rw [hj1, hj2])
                   have HKu : Hid (keyK u = (kd, lb)) := Lib.hid (by unfold keyK; rw [HKd.out, HLb.out])
                   have hjn : j < nk := by omega
                   clear huj hUj hj1 hj2
                   by_cases hkk : kj = kd
                   · subst hkk
                     by_cases hll : lj = lb
                     · subst hll
                       have HE := Lib.hid (right_kids (kids_dup (id := id) (kind := kind) (label := label) (head := head) (words := words) HU.out (inl_at HUj.out hjk (by rw [HKj.out, HKu.out]))))
                       go_wp2_with fail
                       go_quiet (fail)
                       go_wp2_with fail
                       go_ret
                       exact ⟨ret_bool HE.out.symm, by first | exact below_drawn HB9.out _ | exact below_drawn (below_drawn HB9.out _) _⟩
                     · have f1 : (lj.toList == lb.toList) = false := by rw [str_eq]; exact decide_eq_false hll
                       have HNe2 : Hid (¬ keyK uj = keyK u) := Lib.hid (by
                         rw [HKj.out, HKu.out]
                         intro h
                         injection h with _ h
                         exact hll h)
                       clear hll
                       go_wp2_with fail
                       go_quiet (fail)
                       go_wp2_with fail
                       go_roundw
                       case rel => exact ⟨j + 1, by omega, by go_num, fun jj x h hx => by
                         by_cases e : jj = j
                         · subst e
                           rw [HUj.out] at hx
                           rw [← Option.some.inj hx]
                           exact HNe2.out
                         · exact HNo.out jj x (by omega) hx, by first | exact ⟨_, rfl⟩ | exact ⟨_, World.drewN_drewN _ _ _⟩⟩
                       case measure => simp [intOf]; omega
                   · have f0 : (kj == kd) = false := by rw [beq_eq_false_iff_ne]; exact hkk
                     have f2 : decide (kj = kd) = false := decide_eq_false hkk
                     have HNe2 : Hid (¬ keyK uj = keyK u) := Lib.hid (by
                       rw [HKj.out, HKu.out]
                       intro h
                       injection h with h _
                       exact hkk h)
                     go_wp2_with fail
                     go_quiet (fail)
                     go_wp2_with fail
                     go_roundw
                     case rel => exact ⟨j + 1, by omega, by go_num, fun jj x h hx => by
                       by_cases e : jj = j
                       · subst e
                         rw [HUj.out] at hx
                         rw [← Option.some.inj hx]
                         exact HNe2.out
                       · exact HNo.out jj x (by omega) hx, by first | exact ⟨_, rfl⟩ | exact ⟨_, World.drewN_drewN _ _ _⟩⟩
                     case measure => simp [intOf]; omega
                 · obtain rfl : j = k := by omega
                   have HTo2 := Lib.hid (right_step HU.out HTo.out HNo.out (by rw [HKd.out]; exact HNs.out) HRt.out)
                   have HBn : Hid (Below (w.heap.size + 1) (w.alloc (.cells #[.int .i64 id.x, .int .i64 id.y, .int .i64 id.z, .int .i64 kind, .string label, .slice Ah nh ch, .slice Aw nw cw, .slice (some ⟨b, off, none⟩) nk ck] 27)) (w9.drewN q)) := Lib.hid (below_drawn HB9r.out q)
                   go_wp2_with fail
                   go_roundw
                   case rel => exact ⟨j + 1, by omega, by go_num, HTo2.out, HBn.out⟩
                   case measure => simp [intOf]; omega
         · obtain rfl : k = nk := by omega
           have HE := Lib.hid (right_done (id := id) (kind := kind) (label := label) (head := head) (words := words) (kids := kids) (by
             have h := HTo.out
             rwa [List.take_of_length_le (by rw [← HKl.out]; exact Nat.le_refl _)] at h) HAl.out)
           go_wp2_with fail
           go_ret
           exact ⟨ret_bool HE.out.symm, HBw.out⟩
end Go.Proofs.YtiohjjgncbhimaaDoor
