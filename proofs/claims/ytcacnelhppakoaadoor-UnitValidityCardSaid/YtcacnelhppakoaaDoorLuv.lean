/-
  UnitValidity.
-/
import Derived.Deep.RegionHeld3
import Derived.Test.YtcacnelhppakoaaDoorFew
import Derived.Test.YtcacnelhppakoaaDoorRmy
namespace Go.Proofs.YtcacnelhppakoaaDoor
open Go.RowKit (wrap32 wrap64 intOf Hid Below)
open Lab Lcs

set_option maxHeartbeats 4000000 in
set_option maxRecDepth 100000 in
theorem lawValidity {w : World} (u : Ut) (v : Value) (hV : UtV w u v) (p z : Int) (hTab : Tab w ∧ TabN w ∧ TabK w) :
    Calls Tryd.prog 3 #[v, .int .i64 p, .int .i64 z] w fun e w' => e = .returned (.bool true) ∧ Below w.heap.size w w' := by
  have hV0 := hV
  cases u with
  | mk id kind label head words kids =>
    obtain ⟨Ah, Aw, Ak, nh, ch, nw, cw, nk, ck, rfl, _, _, _, _⟩ := hV.open_
    obtain ⟨U, hU⟩ : ∃ U, U = Ut.mk id kind label head words kids := ⟨_, rfl⟩
    rw [← hU] at hV0
    obtain ⟨hT, hN, hK⟩ := hTab
    have hb0 := alloc_below w (.cells #[.int .i64 id.x, .int .i64 id.y, .int .i64 id.z, .int .i64 kind, .string label, .slice Ah nh ch, .slice Aw nw cw, .slice Ak nk ck] 27)
    have HB0 := Lib.hid hb0
    have HBx := Lib.hid (Box8.new w 27 (.int .i64 id.x) (.int .i64 id.y) (.int .i64 id.z) (.int .i64 kind) (.string label) (.slice Ah nh ch) (.slice Aw nw cw) (.slice Ak nk ck))
    have HL0 := Lib.hid (alloc_lt w (.cells #[.int .i64 id.x, .int .i64 id.y, .int .i64 id.z, .int .i64 kind, .string label, .slice Ah nh ch, .slice Aw nw cw, .slice Ak nk ck] 27))
    have HV0 := Lib.hid hV0
    have HT := Lib.hid hT
    have HN := Lib.hid hN
    have HK := Lib.hid hK
    have HA := Lib.hid (awake_any _ (hT.below hb0) (hN.below hb0) (hK.below hb0))
    have HFe : Hid (∀ W, Below w.heap.size w W → Calls Tryd.prog 18 #[.agg #[.int .i64 id.x, .int .i64 id.y, .int .i64 id.z, .int .i64 kind, .string label, .slice Ah nh ch, .slice Aw nw cw, .slice Ak nk ck], .int .i64 60] W fun e w' => FewRet 60 U e ∧ Below W.heap.size W w') := Lib.hid fun W hb => few_any U _ W 60 60 rfl (by decide) (HV0.out.below hb)
    have HS : Hid (∀ W, Below (w.heap.size + 1) (w.alloc (.cells #[.int .i64 id.x, .int .i64 id.y, .int .i64 id.z, .int .i64 kind, .string label, .slice Ah nh ch, .slice Aw nw cw, .slice Ak nk ck] 27)) W → W.cell? ⟨w.heap.size, 0, none⟩ = some (.int .i64 id.x) ∧ W.cell? ⟨w.heap.size, 1, none⟩ = some (.int .i64 id.y) ∧ W.cell? ⟨w.heap.size, 2, none⟩ = some (.int .i64 id.z) ∧ W.cell? ⟨w.heap.size, 3, none⟩ = some (.int .i64 kind) ∧ W.cell? ⟨w.heap.size, 4, none⟩ = some (.string label) ∧ W.cell? ⟨w.heap.size, 5, none⟩ = some (.slice Ah nh ch) ∧ W.cell? ⟨w.heap.size, 6, none⟩ = some (.slice Aw nw cw) ∧ W.cell? ⟨w.heap.size, 7, none⟩ = some (.slice Ak nk ck)) := Lib.hid fun W hb => by
      obtain ⟨a0, a1, a2, a3, a4, a5, a6, a7⟩ := HBx.out.below hb (by omega)
      exact ⟨a0, a1, a2, a3, a4, a5, a6, a7⟩
    have hEs : (w.alloc (.cells #[.int .i64 id.x, .int .i64 id.y, .int .i64 id.z, .int .i64 kind, .string label, .slice Ah nh ch, .slice Aw nw cw, .slice Ak nk ck] 27)).heap.size = w.heap.size + 1 := by simp
    have HUd : Hid (∀ W, Below (w.alloc (.cells #[.int .i64 id.x, .int .i64 id.y, .int .i64 id.z, .int .i64 kind, .string label, .slice Ah nh ch, .slice Aw nw cw, .slice Ak nk ck] 27)).heap.size (w.alloc (.cells #[.int .i64 id.x, .int .i64 id.y, .int .i64 id.z, .int .i64 kind, .string label, .slice Ah nh ch, .slice Aw nw cw, .slice Ak nk ck] 27)) W → Below (w.heap.size + 1) (w.alloc (.cells #[.int .i64 id.x, .int .i64 id.y, .int .i64 id.z, .int .i64 kind, .string label, .slice Ah nh ch, .slice Aw nw cw, .slice Ak nk ck] 27)) W) := Lib.hid fun W h => by rwa [hEs] at h
    have HUo : Hid (∀ W, Below (w.heap.size + 1) (w.alloc (.cells #[.int .i64 id.x, .int .i64 id.y, .int .i64 id.z, .int .i64 kind, .string label, .slice Ah nh ch, .slice Aw nw cw, .slice Ak nk ck] 27)) W → Below w.heap.size w W) := Lib.hid fun W h => (alloc_below w (.cells #[.int .i64 id.x, .int .i64 id.y, .int .i64 id.z, .int .i64 kind, .string label, .slice Ah nh ch, .slice Aw nw cw, .slice Ak nk ck] 27)).trans (h.mono (Nat.le_succ _))
    have HSz : Hid (∀ W, Below (w.heap.size + 1) (w.alloc (.cells #[.int .i64 id.x, .int .i64 id.y, .int .i64 id.z, .int .i64 kind, .string label, .slice Ah nh ch, .slice Aw nw cw, .slice Ak nk ck] 27)) W → w.heap.size + 1 ≤ W.heap.size) := Lib.hid fun W h => by have := h.size; omega
    clear hV hV0 hU hb0 hEs hT hN hK
    go_enter Tryd.func3, Tryd.ntmps3
    go_wp2_with fail
    with_reducible refine (HA.out).mono ?_
    rintro e w1 ⟨rfl, hb1⟩
    have X1 := Lib.hid (HUd.out _ hb1)
    have HF2 := Lib.hid (HFe.out _ (HUo.out _ X1.out))
    obtain ⟨p0, p1, p2, p3, p4, p5, p6, p7⟩ := HS.out _ X1.out
    clear hb1
    go_wp2_with fail
    with_reducible refine (HF2.out).mono ?_
    rintro e w2 ⟨⟨b, rfl, hsm⟩, hb2⟩
    have X2 := Lib.hid (X1.out.trans (hb2.mono (HSz.out _ X1.out)))
    clear hb2 p0 p1 p2 p3 p4 p5 p6 p7
    cases b with
    | false =>
      clear hsm
      go_wp2_with fail
      go_ret
      exact ⟨rfl, HUo.out _ X2.out⟩
    | true =>
      have HM := Lib.hid ((hsm rfl).tame (by decide))
      clear hsm
      have H1 : Hid (∀ W, Below w.heap.size w W → Calls Tryd.prog 19 #[.agg #[.int .i64 id.x, .int .i64 id.y, .int .i64 id.z, .int .i64 kind, .string label, .slice Ah nh ch, .slice Aw nw cw, .slice Ak nk ck]] W fun e w' => e = .returned (.bool (validB U)) ∧ Below W.heap.size W w') := Lib.hid fun W hb => uvalid_any U _ W (HT.out.below hb) (HN.out.below hb) (HV0.out.below hb) HM.out
      have H2 : Hid (∀ W, Below w.heap.size w W → Calls Tryd.prog 20 #[.agg #[.int .i64 id.x, .int .i64 id.y, .int .i64 id.z, .int .i64 kind, .string label, .slice Ah nh ch, .slice Aw nw cw, .slice Ak nk ck]] W fun e w' => e = .returned (.bool (validB U)) ∧ Below W.heap.size W w') := Lib.hid fun W hb => rmay_any U _ W (HV0.out.below hb) HM.out
      have H3 : Hid (∀ W, Below w.heap.size w W → Calls Tryd.prog 21 #[.agg #[.int .i64 id.x, .int .i64 id.y, .int .i64 id.z, .int .i64 kind, .string label, .slice Ah nh ch, .slice Aw nw cw, .slice Ak nk ck]] W fun e w' => e = .returned (.bool (bareB U)) ∧ Below W.heap.size W w') := Lib.hid fun W hb => isbare_any U _ W (HT.out.below hb) (HN.out.below hb) (HV0.out.below hb) HM.out
      have H4 : Hid (∀ W, Below w.heap.size w W → Calls Tryd.prog 22 #[.agg #[.int .i64 id.x, .int .i64 id.y, .int .i64 id.z, .int .i64 kind, .string label, .slice Ah nh ch, .slice Aw nw cw, .slice Ak nk ck]] W fun e w' => e = .returned (.bool (bareB U)) ∧ Below W.heap.size W w') := Lib.hid fun W hb => rbare_any U _ W (HV0.out.below hb) HM.out
      have H5 : Hid (∀ W, Below w.heap.size w W → Calls Tryd.prog 23 #[.int .i64 p, .int .i64 z] W fun e w' => e = .returned (.bool (nestsB p z)) ∧ W = w') := Lib.hid fun W hb => contain_any p z W (HN.out.below hb)
      have H6 : Hid (∀ W, Calls Tryd.prog 24 #[.int .i64 p, .int .i64 z] W fun e w' => e = .returned (.bool (nestsB p z)) ∧ W = w') := Lib.hid fun W => nests_any p z W
      have H7 : Hid (∀ W, Below w.heap.size w W → Calls Tryd.prog 25 #[.int .i64 z] W fun e w' => e = .returned (.string (nameL z)) ∧ W = w') := Lib.hid fun W hb => kindname_any z W (HK.out.below hb)
      have H8 : Hid (∀ W, Calls Tryd.prog 26 #[.int .i64 z] W fun e w' => e = .returned (.string (nameL z)) ∧ Below W.heap.size W w') := Lib.hid fun W => name_any z W
      obtain ⟨p0, p1, p2, p3, p4, p5, p6, p7⟩ := HS.out _ X2.out
      have HX3 : Hid (Below (w.heap.size + 1) (w.alloc (.cells #[.int .i64 id.x, .int .i64 id.y, .int .i64 id.z, .int .i64 kind, .string label, .slice Ah nh ch, .slice Aw nw cw, .slice Ak nk ck] 27)) w2.drew) := Lib.hid X2.out.drew
      go_wp2_with fail
      go_region_held3 (fun w' => w'.cell? ⟨w.heap.size, 0, none⟩ = some (.int .i64 id.x) ∧ w'.cell? ⟨w.heap.size, 1, none⟩ = some (.int .i64 id.y) ∧ w'.cell? ⟨w.heap.size, 2, none⟩ = some (.int .i64 id.z) ∧ w'.cell? ⟨w.heap.size, 3, none⟩ = some (.int .i64 kind) ∧ w'.cell? ⟨w.heap.size, 4, none⟩ = some (.string label) ∧ w'.cell? ⟨w.heap.size, 5, none⟩ = some (.slice Ah nh ch) ∧ w'.cell? ⟨w.heap.size, 6, none⟩ = some (.slice Aw nw cw) ∧ w'.cell? ⟨w.heap.size, 7, none⟩ = some (.slice Ak nk ck))
        (with_reducible (first | exact HS.out _ hy8 | exact HS.out _ hy6 | exact HS.out _ hy5 | exact HS.out _ hy4 | exact HS.out _ hy3 | exact HS.out _ HX3.out))
        (first
          | (go_at_call 19; with_reducible refine (H1.out _ ?_).mono ?_; (with_reducible exact HUo.out _ HX3.out); rintro e w3 ⟨rfl, hb3⟩; have hy3 := HX3.out.trans (hb3.mono (HSz.out _ HX3.out)))
          | (go_at_call 20; with_reducible refine (H2.out _ ?_).mono ?_; (with_reducible exact HUo.out _ hy3); rintro e w4 ⟨rfl, hb4⟩; have hy4 := hy3.trans (hb4.mono (HSz.out _ hy3)))
          | (go_at_call 21; with_reducible refine (H3.out _ ?_).mono ?_; (with_reducible exact HUo.out _ hy4); rintro e w5 ⟨rfl, hb5⟩; have hy5 := hy4.trans (hb5.mono (HSz.out _ hy4)))
          | (go_at_call 22; with_reducible refine (H4.out _ ?_).mono ?_; (with_reducible exact HUo.out _ hy5); rintro e w6 ⟨rfl, hb6⟩; have hy6 := hy5.trans (hb6.mono (HSz.out _ hy5)))
          | (go_at_call 23; with_reducible refine (H5.out _ ?_).mono ?_; (with_reducible exact HUo.out _ hy6); rintro e w7 ⟨rfl, rfl⟩)
          | (go_at_call 24; with_reducible refine (H6.out _).mono ?_; rintro e w7 ⟨rfl, rfl⟩)
          | (go_at_call 25; with_reducible refine (H7.out _ ?_).mono ?_; (with_reducible exact HUo.out _ hy6); rintro e w7 ⟨rfl, rfl⟩)
          | (go_at_call 26; with_reducible refine (H8.out _).mono ?_; rintro e w8 ⟨rfl, hb8⟩; have hy8 := hy6.trans (hb8.mono (HSz.out _ hy6))))
      go_wp2_with fail
      go_ret
      exact ⟨ret_bool (by simp), HUo.out _ hy8⟩
end Go.Proofs.YtcacnelhppakoaaDoor
