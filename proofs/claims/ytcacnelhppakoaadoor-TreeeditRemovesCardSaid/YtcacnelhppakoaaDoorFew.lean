/-
  The reference's size, words and Few.
-/
import Derived.Test.YtcacnelhppakoaaDoorVal2
namespace Go.Proofs.YtcacnelhppakoaaDoor
open Go.RowKit (wrap32 wrap64 intOf Hid Below)
open Lab Lcs

def SizeRet (u : Ut) (deep most : Nat) (e : Ending) : Prop := ∃ z : Nat, e = .returned (.int .i64 (z : Int)) ∧ 1 ≤ z ∧ z ≤ most + 1 ∧ (z ≤ most → z = u.count ∧ deep + u.depth ≤ 20)
set_option maxHeartbeats 4000000 in
set_option maxRecDepth 100000 in
theorem size_any (N : Nat) : ∀ (u : Ut) (v : Value) (w : World) (deep most : Nat), u.count ≤ N → deep ≤ 21 → most ≤ 1000 → UtV w u v →
    Calls Tryd.prog 69 #[v, .int .i64 (deep : Int), .int .i64 (most : Int)] w fun e w' => SizeRet u deep most e ∧ Below w.heap.size w w' := by
  induction N with
  | zero => intro u v w deep most hN _ _ _; have := count_pos u; omega
  | succ N ih =>
    intro u v w deep most hN hd hm hV
    cases u with
    | mk id kind label head words kids =>
      obtain ⟨Ah, Aw, Ak, nh, ch, nw, cw, nk, ck, rfl, hok, hWh, hWw, hR⟩ := hV.open_
      have HR := Lib.hid hR
      have hnk := hR.2.1
      have hck := hR.2.2.1
      have HKl := Lib.hid hR.1
      rw [count_mk] at hN
      have HN := Lib.hid hN
      have HI := Lib.hid ih
      have HBx := Lib.hid (Box8.new w 27 (.int .i64 id.x) (.int .i64 id.y) (.int .i64 id.z) (.int .i64 kind) (.string label) (.slice Ah nh ch) (.slice Aw nw cw) (.slice Ak nk ck))
      have HB0 := Lib.hid (alloc_below w (.cells #[.int .i64 id.x, .int .i64 id.y, .int .i64 id.z, .int .i64 kind, .string label, .slice Ah nh ch, .slice Aw nw cw, .slice Ak nk ck] 27))
      obtain ⟨n0, n1, n2, n3, n4, n5, n6, n7⟩ := HBx.out
      clear hR hV ih hN hok hWh hWw
      by_cases h20 : deep ≤ 20
      case neg =>
        have h20' : 20 < deep := by omega
        have g1 : IntKind.i64.wrap ((most : Int) + 1) = most + 1 := by rw [IntKind.wrap_i64]; omega
        clear h20
        go_enter Tryd.func69, Tryd.ntmps69
        go_wp2_with fail
        go_ret
        exact ⟨⟨most + 1, by first | rfl | (rw [Int.natCast_add]; rfl), by omega, Nat.le_refl _, fun h => by omega⟩, HB0.out⟩
      go_enter Tryd.func69, Tryd.ntmps69
      go_wp2_with fail
      go_loopw [7, 8] (fun n i wr => ∃ (k a : Nat), k ≤ nk ∧ i = .int .i64 k ∧ n = .int .i64 (a : Int) ∧ 1 ≤ a ∧ a ≤ most + 1 ∧ (a ≤ most → a = 1 + Ut.counts (kids.take k) ∧ deep + Ut.depths (kids.take k) ≤ 20) ∧ Below (w.heap.size + 1) (w.alloc (.cells #[.int .i64 id.x, .int .i64 id.y, .int .i64 id.z, .int .i64 kind, .string label, .slice Ah nh ch, .slice Aw nw cw, .slice Ak nk ck] 27)) wr) (fun _ i _ => nk - (intOf i).toNat)
      case atStart => exact ⟨0, 1, Nat.zero_le _, rfl, rfl, Nat.le_refl _, by omega, fun _ => ⟨rfl, by show deep + 0 ≤ 20; omega⟩, Below.refl _ _⟩
      case round =>
        rename World => wr
        obtain ⟨k, a, hk, rfl, rfl, ha1, ha2, hinv, hbr⟩ := hrel
        have HInv := Lib.hid hinv
        have HBr := Lib.hid hbr
        obtain ⟨hbw, hsz⟩ := in_box hbr
        obtain ⟨p0, p1, p2, p3, p4, p5, p6, p7⟩ := HBx.out.below hbr (Nat.lt_succ_self _)
        clear hinv hbr
        by_cases hlt : k < nk
        · by_cases ham : a ≤ most
          · obtain ⟨b, off, u, i1, i2, i3, kd, lb, Bh, Bw, Bk, mh, dh, mw, dw, mk, dk, rfl, hblt, hu, hUV, c0, c1, c2, c3, c4, c5, c6, c7⟩ := HR.out.at_ hbw hlt
            have hcm := counts_mem hu
            have hN := HN.out
            have hHC := HI.out u _ wr (deep + 1) (most - a) (by omega) (by omega) (by omega) hUV
            have HCt := Lib.hid (counts_take hu)
            have HDt := Lib.hid (depths_take hu)
            have g1 : IntKind.i64.wrap ((deep : Int) + 1) = deep + 1 := by rw [IntKind.wrap_i64]; omega
            have g2 : IntKind.i64.wrap ((most : Int) - a) = (most : Int) - a := by rw [IntKind.wrap_i64]; omega
            rw [show ((deep + 1 : Nat) : Int) = (deep : Int) + 1 by omega, show ((most - a : Nat) : Int) = (most : Int) - a by omega] at hHC
            have HC := Lib.hid hHC
            clear hu hUV hcm hN hHC
            go_wp2_with fail
            with_reducible refine (HC.out).mono ?_
            rintro e w2 ⟨⟨z, rfl, hz1, hz2, hz3⟩, hb2⟩
            have HZ3 := Lib.hid hz3
            have HB2 := Lib.hid (HBr.out.trans (hb2.mono hsz))
            have g3 : IntKind.i64.wrap ((a : Int) + z) = (a : Int) + z := by rw [IntKind.wrap_i64]; omega
            clear hz3 hb2
            go_wp2_with fail
            go_roundw
            case rel => exact ⟨k + 1, a + z, by omega, by go_num, by go_num, by omega, by omega, fun h => by
              obtain ⟨q1, q2⟩ := HInv.out ham
              obtain ⟨q3, q4⟩ := HZ3.out (by omega)
              rw [HCt.out, HDt.out]
              omega, HB2.out⟩
            case measure => simp [intOf]; omega
          · have ham' : most < a := by omega
            clear ham
            go_wp2_with fail
            go_ret
            exact ⟨⟨a, rfl, ha1, ha2, fun h => by omega⟩, hbw⟩
        · obtain rfl : k = nk := by omega
          have HT : Hid (kids.take k = kids) := Lib.hid (List.take_of_length_le (by rw [← HKl.out]; exact Nat.le_refl _))
          go_wp2_with fail
          go_ret
          exact ⟨⟨a, rfl, ha1, ha2, fun h => by
            obtain ⟨q1, q2⟩ := HInv.out h
            rw [HT.out] at q1 q2
            rw [count_mk, depth_mk]
            exact ⟨q1, q2⟩⟩, hbw⟩
def fewB (x : Ut) : Bool := decide (x.label.size ≤ 30) && shortB x.head && shortB x.words
set_option maxHeartbeats 4000000 in
set_option maxRecDepth 100000 in
theorem words_any (N : Nat) : ∀ (u : Ut) (v : Value) (w : World), u.count ≤ N → UtV w u v →
    Calls Tryd.prog 70 #[v] w fun e w' => e = .returned (.bool (u.all.all fewB)) ∧ Below w.heap.size w w' := by
  induction N with
  | zero => intro u v w hN _; have := count_pos u; omega
  | succ N ih =>
    intro u v w hN hV
    cases u with
    | mk id kind label head words kids =>
      obtain ⟨Ah, Aw, Ak, nh, ch, nw, cw, nk, ck, rfl, hok, hWh, hWw, hR⟩ := hV.open_
      have HR := Lib.hid hR
      have hnk := hR.2.1
      have hck := hR.2.2.1
      have HKl := Lib.hid hR.1
      rw [count_mk] at hN
      have HN := Lib.hid hN
      have HI := Lib.hid ih
      have HBx := Lib.hid (Box8.new w 27 (.int .i64 id.x) (.int .i64 id.y) (.int .i64 id.z) (.int .i64 kind) (.string label) (.slice Ah nh ch) (.slice Aw nw cw) (.slice Ak nk ck))
      have hb0 := alloc_below w (.cells #[.int .i64 id.x, .int .i64 id.y, .int .i64 id.z, .int .i64 kind, .string label, .slice Ah nh ch, .slice Aw nw cw, .slice Ak nk ck] 27)
      have HB0 := Lib.hid hb0
      have HH := Lib.hid (short_any head nh ch Ah _ (hWh.below hb0))
      have HW := Lib.hid (short_any words nw cw Aw _ (hWw.below hb0))
      obtain ⟨n0, n1, n2, n3, n4, n5, n6, n7⟩ := HBx.out
      have HF : Hid (fewB (Ut.mk id kind label head words kids) = (decide (label.size ≤ 30) && shortB head && shortB words)) := Lib.hid rfl
      clear hR hV ih hN hok hWh hWw hb0
      by_cases hl : label.size ≤ 30
      case neg =>
        have hl' : 30 < label.size := by omega
        have HE := Lib.hid (all_bad_self (p := fewB) (u := Ut.mk id kind label head words kids) (by rw [HF.out, decide_eq_false hl]; rfl))
        clear hl
        go_enter Tryd.func70, Tryd.ntmps70
        go_wp2_with fail
        go_ret
        exact ⟨ret_bool HE.out.symm, HB0.out⟩
      cases hh : shortB head with
      | false =>
        have HE := Lib.hid (all_bad_self (p := fewB) (u := Ut.mk id kind label head words kids) (by rw [HF.out, hh, Bool.and_false]; rfl))
        rw [hh] at HH
        clear hh
        go_enter Tryd.func70, Tryd.ntmps70
        go_wp2_with (go_at_call 120; ((with_reducible refine (HH.out).mono ?_); rintro e w1 ⟨rfl, rfl⟩))
        go_ret
        exact ⟨ret_bool HE.out.symm, HB0.out⟩
      | true =>
        cases hw : shortB words with
        | false =>
          have HE := Lib.hid (all_bad_self (p := fewB) (u := Ut.mk id kind label head words kids) (by rw [HF.out, hw, Bool.and_false]))
          rw [hh] at HH
          rw [hw] at HW
          clear hh hw
          go_enter Tryd.func70, Tryd.ntmps70
          go_wp2_with (first
            | (go_at_call 120; ((with_reducible refine (HH.out).mono ?_); rintro e w1 ⟨rfl, rfl⟩))
            | (go_at_call 120; ((with_reducible refine (HW.out).mono ?_); rintro e w1 ⟨rfl, rfl⟩)))
          go_ret
          exact ⟨ret_bool HE.out.symm, HB0.out⟩
        | true =>
          have HP : Hid (fewB (Ut.mk id kind label head words kids) = true) := Lib.hid (by rw [HF.out, hh, hw, decide_eq_true hl]; rfl)
          rw [hh] at HH
          rw [hw] at HW
          clear hh hw
          go_enter Tryd.func70, Tryd.ntmps70
          go_wp2_with (first
            | (go_at_call 120; ((with_reducible refine (HH.out).mono ?_); rintro e w1 ⟨rfl, rfl⟩))
            | (go_at_call 120; ((with_reducible refine (HW.out).mono ?_); rintro e w1 ⟨rfl, rfl⟩)))
          go_loopw [3] (fun i wr => ∃ k : Nat, k ≤ nk ∧ i = .int .i64 k ∧ (Ut.alls (kids.take k)).all fewB = true ∧ Below (w.heap.size + 1) (w.alloc (.cells #[.int .i64 id.x, .int .i64 id.y, .int .i64 id.z, .int .i64 kind, .string label, .slice Ah nh ch, .slice Aw nw cw, .slice Ak nk ck] 27)) wr) (fun i _ => nk - (intOf i).toNat)
          case atStart => exact ⟨0, Nat.zero_le _, rfl, rfl, Below.refl _ _⟩
          case round =>
            rename World => wr
            obtain ⟨k, hk, rfl, hal, hbr⟩ := hrel
            have HAl := Lib.hid hal
            have HBr := Lib.hid hbr
            obtain ⟨hbw, hsz⟩ := in_box hbr
            have HBw := Lib.hid hbw
            obtain ⟨p0, p1, p2, p3, p4, p5, p6, p7⟩ := HBx.out.below hbr (Nat.lt_succ_self _)
            clear hal hbr
            by_cases hlt : k < nk
            · obtain ⟨b, off, u, i1, i2, i3, kd, lb, Bh, Bw, Bk, mh, dh, mw, dw, mk, dk, rfl, hblt, hu, hUV, c0, c1, c2, c3, c4, c5, c6, c7⟩ := HR.out.at_ hbw hlt
              have hcm := counts_mem hu
              have hN := HN.out
              have HC := Lib.hid (HI.out u _ wr (by omega) hUV)
              have HU := Lib.hid hu
              have hbz := hbw.size
              clear hu hUV hcm hN hbw
              cases hp : u.all.all fewB with
              | false =>
                rw [hp] at HC
                have HE := Lib.hid (all_bad_kid (id := id) (kind := kind) (label := label) (head := head) (words := words) HU.out hp)
                clear hp
                go_wp2_with (go_at_call 70; ((with_reducible refine (HC.out).mono ?_); rintro e w2 ⟨rfl, hb2⟩))
                go_ret
                exact ⟨ret_bool HE.out.symm, HBw.out.trans (hb2.mono hbz)⟩
              | true =>
                rw [hp] at HC
                have HE := Lib.hid (all_step HU.out HAl.out hp)
                clear hp
                go_wp2_with (go_at_call 70; ((with_reducible refine (HC.out).mono ?_); rintro e w2 ⟨rfl, hb2⟩))
                go_roundw
                case rel => exact ⟨k + 1, by omega, by go_num, HE.out, HBr.out.trans (hb2.mono hsz)⟩
                case measure => simp [intOf]; omega
            · obtain rfl : k = nk := by omega
              have HE : Hid ((Ut.mk id kind label head words kids).all.all fewB = true) := Lib.hid (all_good_kids HP.out (by
                have h := HAl.out
                rwa [List.take_of_length_le (by rw [← HKl.out]; exact Nat.le_refl _)] at h))
              go_wp2_with fail
              go_ret
              exact ⟨ret_bool HE.out.symm, HBw.out⟩
/-- A tree within the bounds of a property. -/
def Small (most : Nat) (u : Ut) : Prop := u.count ≤ most ∧ u.depth ≤ 20 ∧ u.all.all fewB = true
def FewRet (most : Nat) (u : Ut) (e : Ending) : Prop := ∃ b : Bool, e = .returned (.bool b) ∧ (b = true → Small most u)
set_option maxHeartbeats 4000000 in
set_option maxRecDepth 100000 in
theorem few_any (u : Ut) (v : Value) (w : World) (most : Nat) (y : Int) (hy : y = (most : Int)) (hm : most ≤ 1000) (hV : UtV w u v) :
    Calls Tryd.prog 18 #[v, .int .i64 y] w fun e w' => FewRet most u e ∧ Below w.heap.size w w' := by
  subst hy
  have hV0 := hV
  cases u with
  | mk id kind label head words kids =>
    obtain ⟨Ah, Aw, Ak, nh, ch, nw, cw, nk, ck, rfl, _, _, _, _⟩ := hV.open_
    obtain ⟨U, hU⟩ : ∃ U, U = Ut.mk id kind label head words kids := ⟨_, rfl⟩
    rw [← hU] at hV0 ⊢
    have hb0 := alloc_below w (.cells #[.int .i64 id.x, .int .i64 id.y, .int .i64 id.z, .int .i64 kind, .string label, .slice Ah nh ch, .slice Aw nw cw, .slice Ak nk ck] 27)
    have HB0 := Lib.hid hb0
    have HBx := Lib.hid (Box8.new w 27 (.int .i64 id.x) (.int .i64 id.y) (.int .i64 id.z) (.int .i64 kind) (.string label) (.slice Ah nh ch) (.slice Aw nw cw) (.slice Ak nk ck))
    have HL0 := Lib.hid (alloc_lt w (.cells #[.int .i64 id.x, .int .i64 id.y, .int .i64 id.z, .int .i64 kind, .string label, .slice Ah nh ch, .slice Aw nw cw, .slice Ak nk ck] 27))
    have HV0 := Lib.hid hV0
    have hS := size_any _ U _ _ 0 most (Nat.le_refl _) (by omega) hm (hV0.below hb0)
    rw [show ((0 : Nat) : Int) = 0 from rfl] at hS
    have HS := Lib.hid hS
    obtain ⟨n0, n1, n2, n3, n4, n5, n6, n7⟩ := HBx.out
    clear hV hV0 hU hb0 hS
    go_enter Tryd.func18, Tryd.ntmps18
    go_wp2_with fail
    with_reducible refine (HS.out).mono ?_
    rintro e w1 ⟨⟨z, rfl, hz1, hz2, hz3⟩, hb1⟩
    have HZ := Lib.hid hz3
    have X1 := Lib.hid (HB0.out.trans (hb1.mono HB0.out.size))
    have Y1 := Lib.hid (HBx.out.below hb1 HL0.out)
    obtain ⟨p0, p1, p2, p3, p4, p5, p6, p7⟩ := Y1.out
    clear hz3 hb1
    by_cases h : z ≤ most
    · have HC := Lib.hid (words_any _ U _ w1 (Nat.le_refl _) (HV0.out.below X1.out))
      go_wp2_with fail
      with_reducible refine (HC.out).mono ?_
      rintro e w2 ⟨rfl, hb2⟩
      go_wp2_with fail
      go_ret
      exact ⟨⟨_, rfl, fun hb => by
        obtain ⟨q1, q2⟩ := HZ.out h
        exact ⟨by omega, by omega, hb⟩⟩, X1.out.trans (hb2.mono X1.out.size)⟩
    · have h' : most < z := by omega
      clear h
      go_wp2_with fail
      go_ret
      exact ⟨⟨_, rfl, fun hb => by first | cases hb | (simp at hb; omega)⟩, X1.out⟩
theorem Small.tame {most : Nat} {u : Ut} (h : Small most u) (hm : most ≤ 1000) : Tame u := by
  obtain ⟨h1, h2, h3⟩ := h
  refine ⟨by omega, fun x hx => ?_⟩
  have h4 := List.all_eq_true.1 h3 x hx
  unfold fewB shortB at h4
  simp only [Bool.and_eq_true, decide_eq_true_eq] at h4
  exact ⟨by omega, by omega, by omega⟩
end Go.Proofs.YtcacnelhppakoaaDoor
