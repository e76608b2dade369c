/-
  Equality of trees: the reference's Same; the program's Equal.
-/
import Derived.Deep.RegionHeld3
import Derived.Test.YtkjgmnmngbfhhaaDoorQ
namespace Go.Proofs.YtkjgmnmngbfhhaaDoor
open Go.RowKit (wrap32 wrap64 intOf Hid Below)
open Lab Lcs
theorem undrew {a w : World} (h : Below a.drew.heap.size a.drew w) : Below a.heap.size a w := ⟨h.os, h.tape, h.output, h.size, h.block⟩
theorem ut_ne {i1 i2 : Trip} {k1 k2 : Int} {l1 l2 : Str} {h1 h2 w1 w2 : List Wd} {c1 c2 : List Ut} (h : ¬ (i1 = i2 ∧ k1 = k2 ∧ l1 = l2 ∧ h1 = h2 ∧ w1 = w2 ∧ c1 = c2)) : decide (Ut.mk i1 k1 l1 h1 w1 c1 = Ut.mk i2 k2 l2 h2 w2 c2) = false := by
 rw [decide_eq_false_iff_not, Ut.mk.injEq]
 exact h
set_option maxHeartbeats 4000000 in
set_option maxRecDepth 100000 in
theorem same_any (N : Nat) : ∀ (u u2 : Ut) (v v2 : Value) (w : World), u.count ≤ N → UtV w u v → UtV w u2 v2 →
   Calls Tryd.prog 25 #[v, v2] w fun e w' => e = .returned (.bool (decide (u = u2))) ∧ Below w.heap.size w w' := by
 induction N with
 | zero => intro u u2 v v2 w hN _ _; have := count_pos u; omega
 | succ N ih =>
   intro u u2 v v2 w hN hV hV2
   cases u with
   | mk id kind label head words kids =>
   cases u2 with
   | mk jd kin2 lab2 hea2 wor2 kid2 =>
     obtain ⟨Ah, Aw, Ak, nh, ch, nw, cw, nk, ck, rfl, hok, hWh, hWw, hR⟩ := hV.open_
     obtain ⟨Eh, Ew, Ek, eh, fh, ew, fw, ek, fk, rfl, hok2, hWh2, hWw2, hR2⟩ := hV2.open_
     obtain ⟨ix, iy, iz⟩ := id
     obtain ⟨jx, jy, jz⟩ := jd
     have HR := Lib.hid hR
     have HR2 := Lib.hid hR2
     have hnk := hR.2.1
     have hck := hR.2.2.1
     have hek := hR2.2.1
     have hfk := hR2.2.2.1
     have HKl := Lib.hid hR.1
     have HKl2 := Lib.hid hR2.1
     rw [count_mk] at hN
     have HN := Lib.hid hN
     have HI := Lib.hid ih
     have hb1 := alloc_below w (.cells #[.int .i64 ix, .int .i64 iy, .int .i64 iz, .int .i64 kind, .string label, .slice Ah nh ch, .slice Aw nw cw, .slice Ak nk ck] 27)
     have hb2 := alloc_below (w.alloc (.cells #[.int .i64 ix, .int .i64 iy, .int .i64 iz, .int .i64 kind, .string label, .slice Ah nh ch, .slice Aw nw cw, .slice Ak nk ck] 27)) (.cells #[.int .i64 jx, .int .i64 jy, .int .i64 jz, .int .i64 kin2, .string lab2, .slice Eh eh fh, .slice Ew ew fw, .slice Ek ek fk] 27)
     have hEs : (w.alloc (.cells #[.int .i64 ix, .int .i64 iy, .int .i64 iz, .int .i64 kind, .string label, .slice Ah nh ch, .slice Aw nw cw, .slice Ak nk ck] 27)).heap.size = w.heap.size + 1 := by simp
     have HB2 := Lib.hid (below2 w (.cells #[.int .i64 ix, .int .i64 iy, .int .i64 iz, .int .i64 kind, .string label, .slice Ah nh ch, .slice Aw nw cw, .slice Ak nk ck] 27) (.cells #[.int .i64 jx, .int .i64 jy, .int .i64 jz, .int .i64 kin2, .string lab2, .slice Eh eh fh, .slice Ew ew fw, .slice Ek ek fk] 27))
     have HBx := Lib.hid ((Box8.new w 27 (.int .i64 ix) (.int .i64 iy) (.int .i64 iz) (.int .i64 kind) (.string label) (.slice Ah nh ch) (.slice Aw nw cw) (.slice Ak nk ck)).below hb2 (by rw [hEs]; exact Nat.lt_succ_self _))
     have HBy := Lib.hid (by have h := Box8.new (w.alloc (.cells #[.int .i64 ix, .int .i64 iy, .int .i64 iz, .int .i64 kind, .string label, .slice Ah nh ch, .slice Aw nw cw, .slice Ak nk ck] 27)) 27 (.int .i64 jx) (.int .i64 jy) (.int .i64 jz) (.int .i64 kin2) (.string lab2) (.slice Eh eh fh) (.slice Ew ew fw) (.slice Ek ek fk); rw [hEs] at h; exact h)
     obtain ⟨n0, n1, n2, n3, n4, n5, n6, n7⟩ := HBx.out
     obtain ⟨m0, m1, m2, m3, m4, m5, m6, m7⟩ := HBy.out
     have HHd := Lib.hid (rows_any head hea2 nh ch eh fh Ah Eh _ (hWh.below HB2.out) (hWh2.below HB2.out))
     have HWd : Hid (∀ q, Calls Tryd.prog 49 #[.slice Aw nw cw, .slice Ew ew fw] (((w.alloc (.cells #[.int .i64 ix, .int .i64 iy, .int .i64 iz, .int .i64 kind, .string label, .slice Ah nh ch, .slice Aw nw cw, .slice Ak nk ck] 27)).alloc (.cells #[.int .i64 jx, .int .i64 jy, .int .i64 jz, .int .i64 kin2, .string lab2, .slice Eh eh fh, .slice Ew ew fw, .slice Ek ek fk] 27)).drewN q) fun e w' => e = .returned (.bool (decide (words = wor2))) ∧ ∃ p, w' = (((w.alloc (.cells #[.int .i64 ix, .int .i64 iy, .int .i64 iz, .int .i64 kind, .string label, .slice Ah nh ch, .slice Aw nw cw, .slice Ak nk ck] 27)).alloc (.cells #[.int .i64 jx, .int .i64 jy, .int .i64 jz, .int .i64 kin2, .string lab2, .slice Eh eh fh, .slice Ew ew fw, .slice Ek ek fk] 27)).drewN q).drewN p) := Lib.hid fun q => rows_any words wor2 nw cw ew fw Aw Ew _ (hWw.below (below_drawn HB2.out q)) (hWw2.below (below_drawn HB2.out q))
     clear hR hR2 hV hV2 ih hN hok hok2 hWh hWh2 hWw hWw2 hb1 hb2 hEs
     by_cases hid : (⟨ix, iy, iz⟩ : Trip) = ⟨jx, jy, jz⟩
     case neg =>
       have HE := Lib.hid (ut_ne (i1 := ⟨ix, iy, iz⟩) (i2 := ⟨jx, jy, jz⟩) (k1 := kind) (k2 := kin2) (l1 := label) (l2 := lab2) (h1 := head) (h2 := hea2) (w1 := words) (w2 := wor2) (c1 := kids) (c2 := kid2) (fun h => hid h.1))
       rcases trip_part hid with h | ⟨rfl, h⟩ | ⟨rfl, rfl, h⟩
       all_goals
         clear hid
         go_enter Tryd.func25, Tryd.ntmps25
         go_wp2_with fail
         go_ret
         exact ⟨ret_bool HE.out.symm, HB2.out⟩
     obtain ⟨rfl, rfl, rfl⟩ : ix = jx ∧ iy = jy ∧ iz = jz := by simpa using hid
     clear hid
     by_cases hk : kind = kin2
     case neg =>
       have HE := Lib.hid (ut_ne (i1 := ⟨ix, iy, iz⟩) (i2 := ⟨ix, iy, iz⟩) (k1 := kind) (k2 := kin2) (l1 := label) (l2 := lab2) (h1 := head) (h2 := hea2) (w1 := words) (w2 := wor2) (c1 := kids) (c2 := kid2) (fun h => hk h.2.1))
       have f0 : (kind == kin2) = false := by rw [beq_eq_false_iff_ne]; exact hk
       have f1 : (kind != kin2) = true := by rw [bne, f0]; rfl
       go_enter Tryd.func25, Tryd.ntmps25
       go_wp2_with fail
       go_ret
       exact ⟨ret_bool HE.out.symm, HB2.out⟩
     subst hk
     by_cases hl : label = lab2
     case neg =>
       have HE := Lib.hid (ut_ne (i1 := ⟨ix, iy, iz⟩) (i2 := ⟨ix, iy, iz⟩) (k1 := kind) (k2 := kind) (l1 := label) (l2 := lab2) (h1 := head) (h2 := hea2) (w1 := words) (w2 := wor2) (c1 := kids) (c2 := kid2) (fun h => hl h.2.2.1))
       have f0 : (label.toList == lab2.toList) = false := by rw [str_eq]; exact decide_eq_false hl
       clear hl
       go_enter Tryd.func25, Tryd.ntmps25
       go_wp2_with fail
       go_ret
       exact ⟨ret_bool HE.out.symm, HB2.out⟩
     subst hl
     by_cases hh : head = hea2
     case neg =>
       have HE := Lib.hid (ut_ne (i1 := ⟨ix, iy, iz⟩) (i2 := ⟨ix, iy, iz⟩) (k1 := kind) (k2 := kind) (l1 := label) (l2 := label) (h1 := head) (h2 := hea2) (w1 := words) (w2 := wor2) (c1 := kids) (c2 := kid2) (fun h => hh h.2.2.2.1))
       rw [decide_eq_false hh] at HHd
       clear hh
       go_enter Tryd.func25, Tryd.ntmps25
       go_wp2_with fail
       with_reducible refine (HHd.out).mono ?_
       rintro e w1 ⟨rfl, q, rfl⟩
       go_wp2_with fail
       go_ret
       exact ⟨ret_bool HE.out.symm, below_drawn HB2.out q⟩
     subst hh
     rw [decide_eq_true rfl] at HHd
     by_cases hw : words = wor2
     case neg =>
       have HE := Lib.hid (ut_ne (i1 := ⟨ix, iy, iz⟩) (i2 := ⟨ix, iy, iz⟩) (k1 := kind) (k2 := kind) (l1 := label) (l2 := label) (h1 := head) (h2 := head) (w1 := words) (w2 := wor2) (c1 := kids) (c2 := kid2) (fun h => hw h.2.2.2.2.1))
       rw [decide_eq_false hw] at HWd
       clear hw
       go_enter Tryd.func25, Tryd.ntmps25
       go_wp2_with fail
       with_reducible refine (HHd.out).mono ?_
       rintro e w1 ⟨rfl, q, rfl⟩
       go_wp2_with fail
       with_reducible refine (HWd.out q).mono ?_
       rintro e w2 ⟨rfl, p, rfl⟩
       go_wp2_with fail
       go_ret
       exact ⟨ret_bool HE.out.symm, by first | exact below_drawn HB2.out _ | exact below_drawn (below_drawn HB2.out _) _⟩
     subst hw
     rw [decide_eq_true rfl] at HWd
     by_cases hn : nk = ek
     case neg =>
       have HE := Lib.hid (ut_ne (i1 := ⟨ix, iy, iz⟩) (i2 := ⟨ix, iy, iz⟩) (k1 := kind) (k2 := kind) (l1 := label) (l2 := label) (h1 := head) (h2 := head) (w1 := words) (w2 := words) (c1 := kids) (c2 := kid2) (fun h => hn (by rw [HKl.out, HKl2.out, h.2.2.2.2.2])))
       have f0 : ((nk : Int) == ek) = false := by rw [beq_eq_false_iff_ne]; omega
       clear hn
       go_enter Tryd.func25, Tryd.ntmps25
       go_wp2_with fail
       with_reducible refine (HHd.out).mono ?_
       rintro e w1 ⟨rfl, q, rfl⟩
       go_wp2_with fail
       with_reducible refine (HWd.out q).mono ?_
       rintro e w2 ⟨rfl, p, rfl⟩
       go_wp2_with fail
       go_ret
       exact ⟨ret_bool HE.out.symm, by first | exact below_drawn HB2.out _ | exact below_drawn (below_drawn HB2.out _) _⟩
     subst hn
     go_enter Tryd.func25, Tryd.ntmps25
     go_wp2_with fail
     with_reducible refine (HHd.out).mono ?_
     rintro e w1 ⟨rfl, q, rfl⟩
     go_wp2_with fail
     with_reducible refine (HWd.out q).mono ?_
     rintro e w2 ⟨rfl, p, rfl⟩
     go_wp2_with fail
     go_loopw [5] (fun i wr => ∃ k : Nat, k ≤ nk ∧ i = .int .i64 k ∧ kids.take k = kid2.take k ∧ Below (w.heap.size + 2) ((w.alloc (.cells #[.int .i64 ix, .int .i64 iy, .int .i64 iz, .int .i64 kind, .string label, .slice Ah nh ch, .slice Aw nw cw, .slice Ak nk ck] 27)).alloc (.cells #[.int .i64 ix, .int .i64 iy, .int .i64 iz, .int .i64 kind, .string label, .slice Eh eh fh, .slice Ew ew fw, .slice Ek nk fk] 27)) wr) (fun i _ => nk - (intOf i).toNat)
     case atStart => exact ⟨0, Nat.zero_le _, rfl, rfl, by first | exact below_drawn (Below.refl _ _) _ | exact below_drawn (below_drawn (Below.refl _ _) _) _⟩
     case round =>
       rename World => wr
       obtain ⟨k, hk, rfl, hal, hbr⟩ := hrel
       have HAl := Lib.hid hal
       have HBr := Lib.hid hbr
       have hbw : Below w.heap.size w wr := HB2.out.trans (hbr.mono (by omega))
       have HBw := Lib.hid hbw
       have HSz : Hid (w.heap.size + 2 ≤ wr.heap.size) := Lib.hid (by have := hbr.size; simp at this; exact this)
       obtain ⟨p0, p1, p2, p3, p4, p5, p6, p7⟩ := HBx.out.below hbr (by omega)
       obtain ⟨q0, q1, q2, q3, q4, q5, q6, q7⟩ := HBy.out.below hbr (by omega)
       clear hal hbr
       by_cases hlt : k < nk
       · obtain ⟨b, off, u, i1, i2, i3, kd, lb, Bh, Bw, Bk, mh, dh, mw, dw, mk, dk, rfl, hblt, hu, hUV, c0, c1, c2, c3, c4, c5, c6, c7⟩ := HR.out.at_ hbw hlt
         obtain ⟨b2, off2, u2, o1, o2, o3, ko, lo, Oh, Ow, Ok, oh, ph, ow, pw, ok, pk, rfl, hblt2, hu2, hUV2, e0, e1, e2, e3, e4, e5, e6, e7⟩ := HR2.out.at_ hbw hlt
         have hcm := counts_mem hu
         have hN := HN.out
         have HC : Hid (∀ W, Below wr.heap.size wr W → Calls Tryd.prog 25 #[.agg #[.int .i64 i1, .int .i64 i2, .int .i64 i3, .int .i64 kd, .string lb, .slice Bh mh dh, .slice Bw mw dw, .slice Bk mk dk], .agg #[.int .i64 o1, .int .i64 o2, .int .i64 o3, .int .i64 ko, .string lo, .slice Oh oh ph, .slice Ow ow pw, .slice Ok ok pk]] W fun e w' => e = .returned (.bool (decide (u = u2))) ∧ Below W.heap.size W w') := Lib.hid fun W hb => HI.out u u2 _ _ W (by omega) (hUV.below hb) (hUV2.below hb)
         have HS : Hid (∀ W, Below wr.heap.size wr W → W.cell? ⟨w.heap.size, 7, none⟩ = some (.slice (some ⟨b, off, none⟩) nk ck) ∧ W.cell? ⟨w.heap.size + 1, 7, none⟩ = some (.slice (some ⟨b2, off2, none⟩) nk fk) ∧ W.cell? ⟨b, off + k * 8, none⟩ = some (.int .i64 i1) ∧ W.cell? ⟨b, off + k * 8 + 1, none⟩ = some (.int .i64 i2) ∧ W.cell? ⟨b, off + k * 8 + 2, none⟩ = some (.int .i64 i3) ∧ W.cell? ⟨b, off + k * 8 + 3, none⟩ = some (.int .i64 kd) ∧ W.cell? ⟨b, off + k * 8 + 4, none⟩ = some (.string lb) ∧ W.cell? ⟨b, off + k * 8 + 5, none⟩ = some (.slice Bh mh dh) ∧ W.cell? ⟨b, off + k * 8 + 6, none⟩ = some (.slice Bw mw dw) ∧ W.cell? ⟨b, off + k * 8 + 7, none⟩ = some (.slice Bk mk dk) ∧ W.cell? ⟨b2, off2 + k * 8, none⟩ = some (.int .i64 o1) ∧ W.cell? ⟨b2, off2 + k * 8 + 1, none⟩ = some (.int .i64 o2) ∧ W.cell? ⟨b2, off2 + k * 8 + 2, none⟩ = some (.int .i64 o3) ∧ W.cell? ⟨b2, off2 + k * 8 + 3, none⟩ = some (.int .i64 ko) ∧ W.cell? ⟨b2, off2 + k * 8 + 4, none⟩ = some (.string lo) ∧ W.cell? ⟨b2, off2 + k * 8 + 5, none⟩ = some (.slice Oh oh ph) ∧ W.cell? ⟨b2, off2 + k * 8 + 6, none⟩ = some (.slice Ow ow pw) ∧ W.cell? ⟨b2, off2 + k * 8 + 7, none⟩ = some (.slice Ok ok pk)) := Lib.hid fun W hb => by
           have hz := HSz.out
           have g1 : b < wr.heap.size := by omega
           have g2 : b2 < wr.heap.size := by omega
           exact ⟨(hb.cell (p := ⟨w.heap.size, 7, none⟩) (by show w.heap.size < _; omega)).trans p7, (hb.cell (p := ⟨w.heap.size + 1, 7, none⟩) (by show w.heap.size + 1 < _; omega)).trans q7,
             (hb.cell (p := ⟨b, off + k * 8, none⟩) g1).trans c0, (hb.cell (p := ⟨b, off + k * 8 + 1, none⟩) g1).trans c1, (hb.cell (p := ⟨b, off + k * 8 + 2, none⟩) g1).trans c2, (hb.cell (p := ⟨b, off + k * 8 + 3, none⟩) g1).trans c3, (hb.cell (p := ⟨b, off + k * 8 + 4, none⟩) g1).trans c4, (hb.cell (p := ⟨b, off + k * 8 + 5, none⟩) g1).trans c5, (hb.cell (p := ⟨b, off + k * 8 + 6, none⟩) g1).trans c6, (hb.cell (p := ⟨b, off + k * 8 + 7, none⟩) g1).trans c7,
             (hb.cell (p := ⟨b2, off2 + k * 8, none⟩) g2).trans e0, (hb.cell (p := ⟨b2, off2 + k * 8 + 1, none⟩) g2).trans e1, (hb.cell (p := ⟨b2, off2 + k * 8 + 2, none⟩) g2).trans e2, (hb.cell (p := ⟨b2, off2 + k * 8 + 3, none⟩) g2).trans e3, (hb.cell (p := ⟨b2, off2 + k * 8 + 4, none⟩) g2).trans e4, (hb.cell (p := ⟨b2, off2 + k * 8 + 5, none⟩) g2).trans e5, (hb.cell (p := ⟨b2, off2 + k * 8 + 6, none⟩) g2).trans e6, (hb.cell (p := ⟨b2, off2 + k * 8 + 7, none⟩) g2).trans e7⟩
         have HU := Lib.hid hu
         have HU2 := Lib.hid hu2
         clear hu hu2 hUV hUV2 hcm hN hbw
         by_cases he : u = u2
         · subst he
           rw [decide_eq_true rfl] at HC
           have HE := Lib.hid (take_eq HAl.out HU.out HU2.out)
           go_wp2_with fail
           go_region_held3 (fun w' => w'.cell? ⟨w.heap.size, 7, none⟩ = some (.slice (some ⟨b, off, none⟩) nk ck) ∧ w'.cell? ⟨w.heap.size + 1, 7, none⟩ = some (.slice (some ⟨b2, off2, none⟩) nk fk) ∧ w'.cell? ⟨b, off + k * 8, none⟩ = some (.int .i64 i1) ∧ w'.cell? ⟨b, off + k * 8 + 1, none⟩ = some (.int .i64 i2) ∧ w'.cell? ⟨b, off + k * 8 + 2, none⟩ = some (.int .i64 i3) ∧ w'.cell? ⟨b, off + k * 8 + 3, none⟩ = some (.int .i64 kd) ∧ w'.cell? ⟨b, off + k * 8 + 4, none⟩ = some (.string lb) ∧ w'.cell? ⟨b, off + k * 8 + 5, none⟩ = some (.slice Bh mh dh) ∧ w'.cell? ⟨b, off + k * 8 + 6, none⟩ = some (.slice Bw mw dw) ∧ w'.cell? ⟨b, off + k * 8 + 7, none⟩ = some (.slice Bk mk dk) ∧ w'.cell? ⟨b2, off2 + k * 8, none⟩ = some (.int .i64 o1) ∧ w'.cell? ⟨b2, off2 + k * 8 + 1, none⟩ = some (.int .i64 o2) ∧ w'.cell? ⟨b2, off2 + k * 8 + 2, none⟩ = some (.int .i64 o3) ∧ w'.cell? ⟨b2, off2 + k * 8 + 3, none⟩ = some (.int .i64 ko) ∧ w'.cell? ⟨b2, off2 + k * 8 + 4, none⟩ = some (.string lo) ∧ w'.cell? ⟨b2, off2 + k * 8 + 5, none⟩ = some (.slice Oh oh ph) ∧ w'.cell? ⟨b2, off2 + k * 8 + 6, none⟩ = some (.slice Ow ow pw) ∧ w'.cell? ⟨b2, off2 + k * 8 + 7, none⟩ = some (.slice Ok ok pk)) (with_reducible (first | exact HS.out _ (Below.refl _ _) | exact HS.out _ (Below.refl _ _).drew | exact HS.out _ hz9 | exact HS.out _ hz9.drew)) (first | (go_at_call 25; refine (HC.out _ ?_).mono ?_; (with_reducible (first | exact Below.refl _ _ | exact (Below.refl _ _).drew)); rintro e w9 ⟨rfl, hb9⟩; first | (have hz9 := undrew hb9) | (have hz9 := hb9)))
           go_wp2_with fail
           go_roundw
           case rel => exact ⟨k + 1, by omega, by go_num, HE.out, HBr.out.trans (hz9.mono HSz.out)⟩
           case measure => simp [intOf]; omega
         · rw [decide_eq_false he] at HC
           have HE := Lib.hid (ut_ne (i1 := ⟨ix, iy, iz⟩) (i2 := ⟨ix, iy, iz⟩) (k1 := kind) (k2 := kind) (l1 := label) (l2 := label) (h1 := head) (h2 := head) (w1 := words) (w2 := words) (c1 := kids) (c2 := kid2) (fun h => ne_at he HU.out HU2.out h.2.2.2.2.2))
           clear he
           go_wp2_with fail
           go_region_held3 (fun w' => w'.cell? ⟨w.heap.size, 7, none⟩ = some (.slice (some ⟨b, off, none⟩) nk ck) ∧ w'.cell? ⟨w.heap.size + 1, 7, none⟩ = some (.slice (some ⟨b2, off2, none⟩) nk fk) ∧ w'.cell? ⟨b, off + k * 8, none⟩ = some (.int .i64 i1) ∧ w'.cell? ⟨b, off + k * 8 + 1, none⟩ = some (.int .i64 i2) ∧ w'.cell? ⟨b, off + k * 8 + 2, none⟩ = some (.int .i64 i3) ∧ w'.cell? ⟨b, off + k * 8 + 3, none⟩ = some (.int .i64 kd) ∧ w'.cell? ⟨b, off + k * 8 + 4, none⟩ = some (.string lb) ∧ w'.cell? ⟨b, off + k * 8 + 5, none⟩ = some (.slice Bh mh dh) ∧ w'.cell? ⟨b, off + k * 8 + 6, none⟩ = some (.slice Bw mw dw) ∧ w'.cell? ⟨b, off + k * 8 + 7, none⟩ = some (.slice Bk mk dk) ∧ w'.cell? ⟨b2, off2 + k * 8, none⟩ = some (.int .i64 o1) ∧ w'.cell? ⟨b2, off2 + k * 8 + 1, none⟩ = some (.int .i64 o2) ∧ w'.cell? ⟨b2, off2 + k * 8 + 2, none⟩ = some (.int .i64 o3) ∧ w'.cell? ⟨b2, off2 + k * 8 + 3, none⟩ = some (.int .i64 ko) ∧ w'.cell? ⟨b2, off2 + k * 8 + 4, none⟩ = some (.string lo) ∧ w'.cell? ⟨b2, off2 + k * 8 + 5, none⟩ = some (.slice Oh oh ph) ∧ w'.cell? ⟨b2, off2 + k * 8 + 6, none⟩ = some (.slice Ow ow pw) ∧ w'.cell? ⟨b2, off2 + k * 8 + 7, none⟩ = some (.slice Ok ok pk)) (with_reducible (first | exact HS.out _ (Below.refl _ _) | exact HS.out _ (Below.refl _ _).drew | exact HS.out _ hz9 | exact HS.out _ hz9.drew)) (first | (go_at_call 25; refine (HC.out _ ?_).mono ?_; (with_reducible (first | exact Below.refl _ _ | exact (Below.refl _ _).drew)); rintro e w9 ⟨rfl, hb9⟩; first | (have hz9 := undrew hb9) | (have hz9 := hb9)))
           go_wp2_with fail
           go_ret
           exact ⟨ret_bool HE.out.symm, HBw.out.trans (hz9.mono (by have := HSz.out; omega))⟩
       · obtain rfl : k = nk := by omega
         have HE : Hid (decide (Ut.mk ⟨ix, iy, iz⟩ kind label head words kids = Ut.mk ⟨ix, iy, iz⟩ kind label head words kid2) = true) := Lib.hid (by
           have h := HAl.out
           rw [List.take_of_length_le (by rw [← HKl.out]; exact Nat.le_refl _), List.take_of_length_le (by rw [← HKl2.out]; exact Nat.le_refl _)] at h
           rw [h]
           exact decide_eq_true rfl)
         go_wp2_with fail
         go_ret
         exact ⟨ret_bool HE.out.symm, HBw.out⟩
end Go.Proofs.YtkjgmnmngbfhhaaDoor
