/-
  The contract of every, for a test that reads only.
-/
import Derived.Test.YtmnbobcgjnickaaGreatDoorKin
namespace Go.Proofs.YtmnbobcgjnickaaGreatDoor
open Go.RowKit (wrap32 wrap64 intOf Hid Below)
open Lab Lcs
def Tests (g : Nat) (lb : Array Value) (p : Ut → Bool) (S : Ut → Prop) (w : World) : Prop :=
 ∀ (x : Ut) (v : Value) (W : World), S x → Below w.heap.size w W → UtV W x v → Calls Tryz.prog g (#[v] ++ lb) W fun e w' => e = .returned (.bool (p x)) ∧ Below W.heap.size W w'
theorem Tests.later {g : Nat} {lb : Array Value} {p : Ut → Bool} {S : Ut → Prop} {w W : World} (h : Tests g lb p S w) (hb : Below w.heap.size w W) : Tests g lb p S W :=
 fun x v W' hS hb' hV => h x v W' hS (hb.trans (hb'.mono hb.size)) hV
theorem all_bad_kid {p : Ut → Bool} {id : Trip} {kind : Int} {label : Str} {head words : List Wd} {kids : List Ut} {k : Nat} {u : Ut} (hu : kids[k]? = some u) (h : u.all.all p = false) : (Ut.mk id kind label head words kids).all.all p = false := by
 rw [List.all_eq_false] at h ⊢
 obtain ⟨x, hx, hp⟩ := h
 exact ⟨x, kid_all hu x hx, hp⟩
theorem all_bad_self {p : Ut → Bool} {u : Ut} (h : p u = false) : u.all.all p = false := by
 rw [List.all_eq_false]
 exact ⟨u, self_all u, by rw [h]; decide⟩
theorem all_good_kids {p : Ut → Bool} {id : Trip} {kind : Int} {label : Str} {head words : List Wd} {kids : List Ut} (h : p (.mk id kind label head words kids) = true) (hk : (Ut.alls kids).all p = true) : (Ut.mk id kind label head words kids).all.all p = true := by
 rw [all_mk, List.all_cons, h, hk]
 rfl
theorem all_step {p : Ut → Bool} {kids : List Ut} {k : Nat} {u : Ut} (hu : kids[k]? = some u) (h1 : (Ut.alls (kids.take k)).all p = true) (h2 : u.all.all p = true) : (Ut.alls (kids.take (k + 1))).all p = true := by
 rw [alls_take hu, List.all_append, h1, h2]
 rfl
set_option maxHeartbeats 4000000 in
set_option maxRecDepth 100000 in
theorem every_any (g : Nat) (lb : Array Value) (eg : ∀ args w, (callFunc g args).run Tryz.prog w = .ok (.enter g args) w) (p : Ut → Bool) (S : Ut → Prop) (N : Nat) : ∀ (u : Ut) (v : Value) (w : World), u.count ≤ N → (∀ x ∈ u.all, S x) → UtV w u v → Tests g lb p S w →
   Calls Tryz.prog 86 #[v, .func (.func g) #[] lb] w fun e w' => e = .returned (.bool (u.all.all p)) ∧ Below w.heap.size w w' := by
 induction N with
 | zero => intro u v w hN _ _; have := count_pos u; omega
 | succ N ih =>
   intro u v w hN hS hV hT
   have hV0 := hV
   have hS0 := hS _ (self_all u)
   cases u with
   | mk id kind label head words kids =>
     obtain ⟨Ah, Aw, Ak, nh, ch, nw, cw, nk, ck, rfl, hok, hWh, hWw, hR⟩ := hV.open_
     have HR := Lib.hid hR
     have hnk := hR.2.1
     have hck := hR.2.2.1
     have HKl := Lib.hid hR.1
     have HSk : Hid (∀ (k : Nat) (u : Ut), kids[k]? = some u → ∀ x ∈ u.all, S x) := Lib.hid fun k u hu x hx => hS x (kid_all hu x hx)
     have HKn : Hid (∀ (k : Nat) (u : Ut), kids[k]? = some u → u.count ≤ N) := Lib.hid fun k u hu => by have := kid_lt (id := id) (kind := kind) (label := label) (head := head) (words := words) hu; omega
     have HI := Lib.hid ih
     have HTs := Lib.hid hT
     have hb0 := alloc_below w (.cells #[.int .i64 id.x, .int .i64 id.y, .int .i64 id.z, .int .i64 kind, .string label, .slice Ah nh ch, .slice Aw nw cw, .slice Ak nk ck] 27)
     have HB0 := Lib.hid hb0
     have HBx := Lib.hid (Box8.new w 27 (.int .i64 id.x) (.int .i64 id.y) (.int .i64 id.z) (.int .i64 kind) (.string label) (.slice Ah nh ch) (.slice Aw nw cw) (.slice Ak nk ck))
     have HC0 := Lib.hid (hT _ _ _ hS0 hb0 (hV0.below hb0))
     obtain ⟨n0, n1, n2, n3, n4, n5, n6, n7⟩ := HBx.out
     have hlt0 := alloc_lt w (.cells #[.int .i64 id.x, .int .i64 id.y, .int .i64 id.z, .int .i64 kind, .string label, .slice Ah nh ch, .slice Aw nw cw, .slice Ak nk ck] 27)
     have HL0 := Lib.hid hlt0
     clear hR hV hV0 hS hS0 ih hT hN hok hWh hWw hb0 hlt0
     cases hp : p (.mk id kind label head words kids) with
     | false =>
       rw [hp] at HC0
       have HE := Lib.hid (all_bad_self hp)
       clear hp
       go_enter Tryz.func86, Tryz.ntmps86
       go_wp2_with (go_at_fn g; ((with_reducible refine (HC0.out).mono ?_); rintro e w1 ⟨rfl, hb1⟩))
       go_ret
       exact ⟨ret_bool HE.out.symm, HB0.out.trans (hb1.mono HB0.out.size)⟩
     | true =>
       rw [hp] at HC0
       have HP := Lib.hid hp
       clear hp
       go_enter Tryz.func86, Tryz.ntmps86
       go_wp2_with (go_at_fn g; ((with_reducible refine (HC0.out).mono ?_); rintro e w1 ⟨rfl, hb1⟩; have m7 := (hb1.cell (p := ⟨w.heap.size, 7, none⟩) HL0.out).trans HBx.out.2.2.2.2.2.2.2))
       go_loopw [14] (fun i wr => ∃ k : Nat, k ≤ nk ∧ i = .int .i64 k ∧ (Ut.alls (kids.take k)).all p = true ∧ Below w.heap.size w wr) (fun i _ => nk - (intOf i).toNat)
       case atStart => exact ⟨0, Nat.zero_le _, rfl, rfl, HB0.out.trans (hb1.mono HB0.out.size)⟩
       case round =>
         rename World => wr
         obtain ⟨k, hk, rfl, hal, hbr⟩ := hrel
         have HAl := Lib.hid hal
         have HBr := Lib.hid hbr
         have hbz := hbr.size
         clear hal
         by_cases hlt : k < nk
         · obtain ⟨b, off, u, i1, i2, i3, kd, lb, Bh, Bw, Bk, mh, dh, mw, dw, mk, dk, rfl, hblt, hu, hUV, c0, c1, c2, c3, c4, c5, c6, c7⟩ := HR.out.at_ hbr hlt
           have hbX := alloc_below wr (.cells #[.int .i64 i1, .int .i64 i2, .int .i64 i3, .int .i64 kd, .string lb, .slice Bh mh dh, .slice Bw mw dw, .slice Bk mk dk] 27)
           obtain ⟨n0, n1, n2, n3, n4, n5, n6, n7⟩ := Box8.new wr 27 (.int .i64 i1) (.int .i64 i2) (.int .i64 i3) (.int .i64 kd) (.string lb) (.slice Bh mh dh) (.slice Bw mw dw) (.slice Bk mk dk)
           have hX := hbr.trans (hbX.mono hbz)
           have HC := Lib.hid (HI.out u _ _ (HKn.out k u hu) (HSk.out k u hu) (hUV.below hbX) (HTs.out.later hX))
           have HX := Lib.hid hX
           have HU := Lib.hid hu
           clear hbX hu hUV hX hbr
           cases hp : u.all.all p with
           | false =>
             rw [hp] at HC
             have HE := Lib.hid (all_bad_kid (id := id) (kind := kind) (label := label) (head := head) (words := words) HU.out hp)
             clear hp
             go_wp2_with (go_at_call 86; ((with_reducible refine (HC.out).mono ?_); rintro e w2 ⟨rfl, hb2⟩))
             go_ret
             exact ⟨ret_bool HE.out.symm, HX.out.trans (hb2.mono HX.out.size)⟩
           | true =>
             rw [hp] at HC
             have HE := Lib.hid (all_step HU.out HAl.out hp)
             clear hp
             go_wp2_with (go_at_call 86; ((with_reducible refine (HC.out).mono ?_); rintro e w2 ⟨rfl, hb2⟩))
             go_roundw
             case rel => exact ⟨k + 1, by omega, by go_num, HE.out, HX.out.trans (hb2.mono HX.out.size)⟩
             case measure => simp [intOf]; omega
         · obtain rfl : k = nk := by omega
           have HE : Hid ((Ut.mk id kind label head words kids).all.all p = true) := Lib.hid (all_good_kids HP.out (by
             have h := HAl.out
             rwa [List.take_of_length_le (by rw [← HKl.out]; exact Nat.le_refl _)] at h))
           go_wp2_with fail
           go_ret
           exact ⟨ret_bool HE.out.symm, HBr.out⟩
end Go.Proofs.YtmnbobcgjnickaaGreatDoor
