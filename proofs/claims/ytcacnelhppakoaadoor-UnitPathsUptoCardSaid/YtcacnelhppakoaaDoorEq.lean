/-
  The contracts of EqualFunc and Equal.
-/
import Derived.Test.YtcacnelhppakoaaDoorSame
namespace Go.Proofs.YtcacnelhppakoaaDoor
open Go.RowKit (wrap32 wrap64 intOf Hid Below)
open Lab Lcs

set_option maxHeartbeats 4000000 in
set_option maxRecDepth 100000 in
theorem eqf_any (l l2 : List Ut) (A B : Option Addr) (n c m d : Nat) (w : World) (hR : Row w A n c l) (hR2 : Row w B m d l2)
    (H : ∀ x ∈ l, ∀ (y : Ut) (v v2 : Value) (W : World), Below w.heap.size w W → UtV W x v → UtV W y v2 → Calls Tryd.prog 43 #[v, v2] W fun e w' => e = .returned (.bool (decide (x = y))) ∧ Below W.heap.size W w') :
    Calls Tryd.prog 92 #[.slice A n c, .slice B m d, .func (.func 43) #[] #[]] w fun e w' => e = .returned (.bool (decide (l = l2))) ∧ Below w.heap.size w w' := by
  have HR := Lib.hid hR
  have HR2 := Lib.hid hR2
  have HL := Lib.hid hR.1
  have HL2 := Lib.hid hR2.1
  have hnc := hR.2.1
  have hc := hR.2.2.1
  have hmd := hR2.2.1
  have hd := hR2.2.2.1
  have HH := Lib.hid H
  clear hR hR2 H
  by_cases hnm : n = m
  case neg =>
    have HE : Hid (decide (l = l2) = false) := Lib.hid (decide_eq_false (by
      rintro rfl
      exact hnm (HL.out.trans HL2.out.symm)))
    have f0 : ((n : Int) == m) = false := by rw [beq_eq_false_iff_ne]; omega
    clear hnm
    go_enter Tryd.func92, Tryd.ntmps92
    go_wp2_with fail
    go_ret
    exact ⟨ret_bool HE.out.symm, Below.refl _ _⟩
  subst hnm
  go_enter Tryd.func92, Tryd.ntmps92
  go_wp2_with fail
  go_loopw [17] (fun i wr => ∃ k : Nat, k ≤ n ∧ i = .int .i64 k ∧ l.take k = l2.take k ∧ Below w.heap.size w wr) (fun i _ => n - (intOf i).toNat)
  case atStart => exact ⟨0, Nat.zero_le _, rfl, rfl, Below.refl _ _⟩
  case round =>
    rename World => wr
    obtain ⟨k, hk, rfl, hal, hbr⟩ := hrel
    have HAl := Lib.hid hal
    have HB := Lib.hid hbr
    have hbz := hbr.size
    clear hal
    by_cases hlt : k < n
    · obtain ⟨b, off, u, i1, i2, i3, kd, lb, Bh, Bw, Bk, mh, dh, mw, dw, mk, dk, rfl, hblt, hu, hUV, c0, c1, c2, c3, c4, c5, c6, c7⟩ := HR.out.at_ hbr hlt
      have hb1 := alloc_below wr (.cells #[.int .i64 i1, .int .i64 i2, .int .i64 i3, .int .i64 kd, .string lb, .slice Bh mh dh, .slice Bw mw dw, .slice Bk mk dk] 27)
      have hbX := hbr.trans (hb1.mono hbz)
      obtain ⟨b2, off2, u2, o1, o2, o3, ko, lo, Oh, Ow, Ok, oh, ph, ow, pw, ok, pk, rfl, hblt2, hu2, hUV2, e0, e1, e2, e3, e4, e5, e6, e7⟩ := HR2.out.at_ hbX hlt
      have hb2 := alloc_below (wr.alloc (.cells #[.int .i64 i1, .int .i64 i2, .int .i64 i3, .int .i64 kd, .string lb, .slice Bh mh dh, .slice Bw mw dw, .slice Bk mk dk] 27)) (.cells #[.int .i64 o1, .int .i64 o2, .int .i64 o3, .int .i64 ko, .string lo, .slice Oh oh ph, .slice Ow ow pw, .slice Ok ok pk] 27)
      have hEs : (wr.alloc (.cells #[.int .i64 i1, .int .i64 i2, .int .i64 i3, .int .i64 kd, .string lb, .slice Bh mh dh, .slice Bw mw dw, .slice Bk mk dk] 27)).heap.size = wr.heap.size + 1 := by simp
      have HBX := Lib.hid ((Box8.new wr 27 (.int .i64 i1) (.int .i64 i2) (.int .i64 i3) (.int .i64 kd) (.string lb) (.slice Bh mh dh) (.slice Bw mw dw) (.slice Bk mk dk)).below hb2 (by rw [hEs]; exact Nat.lt_succ_self _))
      have HBY := Lib.hid (by have h := Box8.new (wr.alloc (.cells #[.int .i64 i1, .int .i64 i2, .int .i64 i3, .int .i64 kd, .string lb, .slice Bh mh dh, .slice Bw mw dw, .slice Bk mk dk] 27)) 27 (.int .i64 o1) (.int .i64 o2) (.int .i64 o3) (.int .i64 ko) (.string lo) (.slice Oh oh ph) (.slice Ow ow pw) (.slice Ok ok pk); rw [hEs] at h; exact h)
      obtain ⟨n0, n1, n2, n3, n4, n5, n6, n7⟩ := HBX.out
      obtain ⟨m0, m1, m2, m3, m4, m5, m6, m7⟩ := HBY.out
      have hbw := below2 wr (.cells #[.int .i64 i1, .int .i64 i2, .int .i64 i3, .int .i64 kd, .string lb, .slice Bh mh dh, .slice Bw mw dw, .slice Bk mk dk] 27) (.cells #[.int .i64 o1, .int .i64 o2, .int .i64 o3, .int .i64 ko, .string lo, .slice Oh oh ph, .slice Ow ow pw, .slice Ok ok pk] 27)
      have HXW := Lib.hid (hbr.trans (hbw.mono hbz))
      have HC := Lib.hid (HH.out u (List.mem_of_getElem? hu) u2 _ _ _ HXW.out (hUV.below hbw) (hUV2.below hb2))
      have HU := Lib.hid hu
      have HU2 := Lib.hid hu2
      clear hu hu2 hUV hUV2 hb1 hb2 hbX hbw hEs hbr
      by_cases he : u = u2
      · subst he
        rw [decide_eq_true rfl] at HC
        have HE := Lib.hid (take_eq HAl.out HU.out HU2.out)
        go_wp2_with (go_at_call 43; ((with_reducible refine (HC.out).mono ?_); rintro e w2 ⟨rfl, hb2⟩))
        go_roundw
        case rel => exact ⟨k + 1, by omega, by go_num, HE.out, HXW.out.trans (hb2.mono HXW.out.size)⟩
        case measure => simp [intOf]; omega
      · rw [decide_eq_false he] at HC
        have HE : Hid (decide (l = l2) = false) := Lib.hid (decide_eq_false (ne_at he HU.out HU2.out))
        clear he
        go_wp2_with (go_at_call 43; ((with_reducible refine (HC.out).mono ?_); rintro e w2 ⟨rfl, hb2⟩))
        go_ret
        exact ⟨ret_bool HE.out.symm, HXW.out.trans (hb2.mono HXW.out.size)⟩
    · obtain rfl : k = n := by omega
      have HE : Hid (decide (l = l2) = true) := Lib.hid (decide_eq_true (by
        have h := HAl.out
        rwa [List.take_of_length_le (by rw [← HL.out]; exact Nat.le_refl _), List.take_of_length_le (by rw [← HL2.out]; exact Nat.le_refl _)] at h))
      go_wp2_with fail
      go_ret
      exact ⟨ret_bool HE.out.symm, HB.out⟩
set_option maxHeartbeats 4000000 in
set_option maxRecDepth 100000 in
theorem equal_any (N : Nat) : ∀ (u u2 : Ut) (v v2 : Value) (w : World), u.count ≤ N → UtV w u v → UtV w u2 v2 →
    Calls Tryd.prog 43 #[v, v2] w fun e w' => e = .returned (.bool (decide (u = u2))) ∧ Below w.heap.size w w' := by
  induction N with
  | zero => intro u u2 v v2 w hN _ _; have := count_pos u; omega
  | succ N ih =>
    intro u u2 v v2 w hN hV hV2
    cases u with
    | mk id kind label head words kids =>
    cases u2 with
    | mk jd kin2 lab2 hea2 wor2 kid2 =>
      obtain ⟨Ah, Aw, Ak, nh, ch, nw, cw, nk, ck, rfl, hok, hWh, hWw, hR⟩ := hV.open_
      obtain ⟨Eh, Ew, Ek, eh, fh, ew, fw, ek, fk, rfl, hok2, hWh2, hWw2, hR2⟩ := hV2.open_
      obtain ⟨ix, iy, iz⟩ := id
      obtain ⟨jx, jy, jz⟩ := jd
      have HR := Lib.hid hR
      have HR2 := Lib.hid hR2
      rw [count_mk] at hN
      have HN := Lib.hid hN
      have HI := Lib.hid ih
      have hb1 := alloc_below w (.cells #[.int .i64 ix, .int .i64 iy, .int .i64 iz, .int .i64 kind, .string label, .slice Ah nh ch, .slice Aw nw cw, .slice Ak nk ck] 27)
      have hb2 := alloc_below (w.alloc (.cells #[.int .i64 ix, .int .i64 iy, .int .i64 iz, .int .i64 kind, .string label, .slice Ah nh ch, .slice Aw nw cw, .slice Ak nk ck] 27)) (.cells #[.int .i64 jx, .int .i64 jy, .int .i64 jz, .int .i64 kin2, .string lab2, .slice Eh eh fh, .slice Ew ew fw, .slice Ek ek fk] 27)
      have hEs : (w.alloc (.cells #[.int .i64 ix, .int .i64 iy, .int .i64 iz, .int .i64 kind, .string label, .slice Ah nh ch, .slice Aw nw cw, .slice Ak nk ck] 27)).heap.size = w.heap.size + 1 := by simp
      have HB2 := Lib.hid (below2 w (.cells #[.int .i64 ix, .int .i64 iy, .int .i64 iz, .int .i64 kind, .string label, .slice Ah nh ch, .slice Aw nw cw, .slice Ak nk ck] 27) (.cells #[.int .i64 jx, .int .i64 jy, .int .i64 jz, .int .i64 kin2, .string lab2, .slice Eh eh fh, .slice Ew ew fw, .slice Ek ek fk] 27))
      have HBx := Lib.hid ((Box8.new w 27 (.int .i64 ix) (.int .i64 iy) (.int .i64 iz) (.int .i64 kind) (.string label) (.slice Ah nh ch) (.slice Aw nw cw) (.slice Ak nk ck)).below hb2 (by rw [hEs]; exact Nat.lt_succ_self _))
      have HBy := Lib.hid (by have h := Box8.new (w.alloc (.cells #[.int .i64 ix, .int .i64 iy, .int .i64 iz, .int .i64 kind, .string label, .slice Ah nh ch, .slice Aw nw cw, .slice Ak nk ck] 27)) 27 (.int .i64 jx) (.int .i64 jy) (.int .i64 jz) (.int .i64 kin2) (.string lab2) (.slice Eh eh fh) (.slice Ew ew fw) (.slice Ek ek fk); rw [hEs] at h; exact h)
      obtain ⟨n0, n1, n2, n3, n4, n5, n6, n7⟩ := HBx.out
      obtain ⟨m0, m1, m2, m3, m4, m5, m6, m7⟩ := HBy.out
      have HHd := Lib.hid (weq_any head hea2 nh ch eh fh Ah Eh _ (hWh.below HB2.out) (hWh2.below HB2.out))
      have HWd : Hid (∀ q, Calls Tryd.prog 91 #[.slice Aw nw cw, .slice Ew ew fw] (((w.alloc (.cells #[.int .i64 ix, .int .i64 iy, .int .i64 iz, .int .i64 kind, .string label, .slice Ah nh ch, .slice Aw nw cw, .slice Ak nk ck] 27)).alloc (.cells #[.int .i64 jx, .int .i64 jy, .int .i64 jz, .int .i64 kin2, .string lab2, .slice Eh eh fh, .slice Ew ew fw, .slice Ek ek fk] 27)).drewN q) fun e w' => e = .returned (.bool (decide (words = wor2))) ∧ ∃ p, w' = (((w.alloc (.cells #[.int .i64 ix, .int .i64 iy, .int .i64 iz, .int .i64 kind, .string label, .slice Ah nh ch, .slice Aw nw cw, .slice Ak nk ck] 27)).alloc (.cells #[.int .i64 jx, .int .i64 jy, .int .i64 jz, .int .i64 kin2, .string lab2, .slice Eh eh fh, .slice Ew ew fw, .slice Ek ek fk] 27)).drewN q).drewN p) := Lib.hid fun q => weq_any words wor2 nw cw ew fw Aw Ew _ (hWw.below (below_drawn HB2.out q)) (hWw2.below (below_drawn HB2.out q))
      have HKd : Hid (∀ W, Below w.heap.size w W → Calls Tryd.prog 92 #[.slice Ak nk ck, .slice Ek ek fk, .func (.func 43) #[] #[]] W fun e w' => e = .returned (.bool (decide (kids = kid2))) ∧ Below W.heap.size W w') := Lib.hid fun W hb => eqf_any kids kid2 Ak Ek nk ck ek fk W (HR.out.below hb) (HR2.out.below hb) (fun x hx y v v2 W' hb' hVx hVy => by
        obtain ⟨k, hk, rfl⟩ := List.getElem_of_mem hx
        have h1 := counts_mem (List.getElem?_eq_getElem hk)
        exact HI.out _ _ _ _ _ (by have := HN.out; omega) hVx hVy)
      clear hR hR2 hV hV2 ih hN hok hok2 hWh hWh2 hWw hWw2 hb1 hb2 hEs
      by_cases hid : (⟨ix, iy, iz⟩ : Trip) = ⟨jx, jy, jz⟩
      case neg =>
        have HE := Lib.hid (ut_ne (i1 := ⟨ix, iy, iz⟩) (i2 := ⟨jx, jy, jz⟩) (k1 := kind) (k2 := kin2) (l1 := label) (l2 := lab2) (h1 := head) (h2 := hea2) (w1 := words) (w2 := wor2) (c1 := kids) (c2 := kid2) (fun h => hid h.1))
        rcases trip_part hid with h | ⟨rfl, h⟩ | ⟨rfl, rfl, h⟩
        all_goals
          clear hid
          go_enter Tryd.func43, Tryd.ntmps43
          go_wp2_with fail
          go_ret
          exact ⟨ret_bool HE.out.symm, HB2.out⟩
      obtain ⟨rfl, rfl, rfl⟩ : ix = jx ∧ iy = jy ∧ iz = jz := by simpa using hid
      clear hid
      by_cases hk : kind = kin2
      case neg =>
        have HE := Lib.hid (ut_ne (i1 := ⟨ix, iy, iz⟩) (i2 := ⟨ix, iy, iz⟩) (k1 := kind) (k2 := kin2) (l1 := label) (l2 := lab2) (h1 := head) (h2 := hea2) (w1 := words) (w2 := wor2) (c1 := kids) (c2 := kid2) (fun h => hk h.2.1))
        have f0 : (kind == kin2) = false := by rw [beq_eq_false_iff_ne]; exact hk
        go_enter Tryd.func43, Tryd.ntmps43
        go_wp2_with fail
        go_ret
        exact ⟨ret_bool HE.out.symm, HB2.out⟩
      subst hk
      by_cases hl : label = lab2
      case neg =>
        have HE := Lib.hid (ut_ne (i1 := ⟨ix, iy, iz⟩) (i2 := ⟨ix, iy, iz⟩) (k1 := kind) (k2 := kind) (l1 := label) (l2 := lab2) (h1 := head) (h2 := hea2) (w1 := words) (w2 := wor2) (c1 := kids) (c2 := kid2) (fun h => hl h.2.2.1))
        have f0 : (label.toList == lab2.toList) = false := by rw [str_eq]; exact decide_eq_false hl
        clear hl
        go_enter Tryd.func43, Tryd.ntmps43
        go_wp2_with fail
        go_ret
        exact ⟨ret_bool HE.out.symm, HB2.out⟩
      subst hl
      by_cases hh : head = hea2
      case neg =>
        have HE := Lib.hid (ut_ne (i1 := ⟨ix, iy, iz⟩) (i2 := ⟨ix, iy, iz⟩) (k1 := kind) (k2 := kind) (l1 := label) (l2 := label) (h1 := head) (h2 := hea2) (w1 := words) (w2 := wor2) (c1 := kids) (c2 := kid2) (fun h => hh h.2.2.2.1))
        rw [decide_eq_false hh] at HHd
        clear hh
        go_enter Tryd.func43, Tryd.ntmps43
        go_wp2_with fail
        with_reducible refine (HHd.out).mono ?_
        rintro e w1 ⟨rfl, q, rfl⟩
        go_wp2_with fail
        go_ret
        exact ⟨ret_bool HE.out.symm, below_drawn HB2.out q⟩
      subst hh
      rw [decide_eq_true rfl] at HHd
      by_cases hw : words = wor2
      case neg =>
        have HE := Lib.hid (ut_ne (i1 := ⟨ix, iy, iz⟩) (i2 := ⟨ix, iy, iz⟩) (k1 := kind) (k2 := kind) (l1 := label) (l2 := label) (h1 := head) (h2 := head) (w1 := words) (w2 := wor2) (c1 := kids) (c2 := kid2) (fun h => hw h.2.2.2.2.1))
        rw [decide_eq_false hw] at HWd
        clear hw
        go_enter Tryd.func43, Tryd.ntmps43
        go_wp2_with fail
        with_reducible refine (HHd.out).mono ?_
        rintro e w1 ⟨rfl, q, rfl⟩
        go_wp2_with fail
        with_reducible refine (HWd.out q).mono ?_
        rintro e w2 ⟨rfl, p, rfl⟩
        go_wp2_with fail
        go_ret
        exact ⟨ret_bool HE.out.symm, by first | exact below_drawn HB2.out _ | exact below_drawn (below_drawn HB2.out _) _⟩
      subst hw
      rw [decide_eq_true rfl] at HWd
      have HE : Hid (decide (Ut.mk ⟨ix, iy, iz⟩ kind label head words kids = Ut.mk ⟨ix, iy, iz⟩ kind label head words kid2) = decide (kids = kid2)) := Lib.hid (by rw [decide_eq_decide, Ut.mk.injEq]; simp)
      go_enter Tryd.func43, Tryd.ntmps43
      go_wp2_with fail
      with_reducible refine (HHd.out).mono ?_
      rintro e w1 ⟨rfl, q, rfl⟩
      go_wp2_with fail
      with_reducible refine (HWd.out q).mono ?_
      rintro e w2 ⟨rfl, p, rfl⟩
      go_wp2_with fail
      have HC := HKd.out _ (below_drawn HB2.out (q + p))
      with_reducible refine HC.mono ?_
      rintro e w3 ⟨rfl, hb3⟩
      go_wp2_with fail
      go_ret
      exact ⟨ret_bool HE.out.symm, (below_drawn HB2.out (q + p)).trans (hb3.mono HB2.out.size)⟩
end Go.Proofs.YtcacnelhppakoaaDoor
