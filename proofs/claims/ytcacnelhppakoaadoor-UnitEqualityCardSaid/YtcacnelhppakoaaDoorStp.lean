/-
  The contracts of Strip, the program's and the reference's.
-/
import Derived.Deep.RegionHeld3
import Derived.Test.YtcacnelhppakoaaDoorStr
import Derived.Test.YtcacnelhppakoaaDoorSame
namespace Go.Proofs.YtcacnelhppakoaaDoor
open Go.RowKit (wrap32 wrap64 intOf Hid Below)
open Lab Lcs

theorem set8_other (W : World) (g : Nat) (y0 y1 y2 y3 y4 y5 y6 y7 : Value) (k : Nat) (h : k ≠ g) : ((((((((W.setCell ⟨g, 0, none⟩ y0).setCell ⟨g, 1, none⟩ y1).setCell ⟨g, 2, none⟩ y2).setCell ⟨g, 3, none⟩ y3).setCell ⟨g, 4, none⟩ y4).setCell ⟨g, 5, none⟩ y5).setCell ⟨g, 6, none⟩ y6).setCell ⟨g, 7, none⟩ y7).heap[k]? = W.heap[k]? := by
  rw [Below.heap_setCell _ _ _ _ h, Below.heap_setCell _ _ _ _ h, Below.heap_setCell _ _ _ _ h, Below.heap_setCell _ _ _ _ h, Below.heap_setCell _ _ _ _ h, Below.heap_setCell _ _ _ _ h, Below.heap_setCell _ _ _ _ h, Below.heap_setCell _ _ _ _ h]
theorem set8_size (W : World) (g : Nat) (y0 y1 y2 y3 y4 y5 y6 y7 : Value) : ((((((((W.setCell ⟨g, 0, none⟩ y0).setCell ⟨g, 1, none⟩ y1).setCell ⟨g, 2, none⟩ y2).setCell ⟨g, 3, none⟩ y3).setCell ⟨g, 4, none⟩ y4).setCell ⟨g, 5, none⟩ y5).setCell ⟨g, 6, none⟩ y6).setCell ⟨g, 7, none⟩ y7).heap.size = W.heap.size := by
  simp only [World.size_setCell]
theorem set8_box {W : World} {g : Nat} {x0 x1 x2 x3 x4 x5 x6 x7 : Value} (y0 y1 y2 y3 y4 y5 y6 y7 : Value) (hb : Box8 W g x0 x1 x2 x3 x4 x5 x6 x7) :
    Box8 ((((((((W.setCell ⟨g, 0, none⟩ y0).setCell ⟨g, 1, none⟩ y1).setCell ⟨g, 2, none⟩ y2).setCell ⟨g, 3, none⟩ y3).setCell ⟨g, 4, none⟩ y4).setCell ⟨g, 5, none⟩ y5).setCell ⟨g, 6, none⟩ y6).setCell ⟨g, 7, none⟩ y7) g y0 y1 y2 y3 y4 y5 y6 y7 := by
  obtain ⟨h0, h1, h2, h3, h4, h5, h6, h7⟩ := hb
  refine ⟨?_, ?_, ?_, ?_, ?_, ?_, ?_, ?_⟩ <;> simp [World.cell?_setCell_same', World.cell?_setCell_other, h0, h1, h2, h3, h4, h5, h6, h7]
theorem WdsQ.later {Q Q' : Nat → Prop} {w w' : World} {A : Option Addr} {n c : Nat} {L : List Wd} (h : WdsQ Q w A n c L) (h1 : ∀ b, Q b → Q' b ∧ w'.heap[b]? = w.heap[b]?) : WdsQ Q' w' A n c L := h.imp (fun b hb => (h1 b hb).1) (fun b hb => (h1 b hb).2)
theorem RowQ.later {Q Q' : Nat → Prop} {w w' : World} {A : Option Addr} {n c : Nat} {l : List Ut} (h : RowQ Q w A n c l) (h1 : ∀ b, Q b → Q' b ∧ w'.heap[b]? = w.heap[b]?) : RowQ Q' w' A n c l := h.imp (fun b hb => (h1 b hb).1) (fun b hb => (h1 b hb).2)
set_option maxHeartbeats 4000000 in
set_option maxRecDepth 100000 in
theorem strip_any (N : Nat) : ∀ (u : Ut) (v : Value) (w : World), u.count ≤ N → Tame u → UtV w u v →
    Calls Tryd.prog 41 #[v] w fun e w' => (∃ v', e = .returned v' ∧ UtVQ (Fresh w.heap.size w') w' u.strip v') ∧ Below w.heap.size w w' := by
  induction N with
  | zero => intro u v w hN _ _; have := count_pos u; omega
  | succ N ih =>
    intro u v w hN hM hV
    have hV0 := hV
    have hself := hM.2 u (self_all u)
    have hkl := (hM.kids u (self_all u)).2
    cases u with
    | mk id kind label head words kids =>
      obtain ⟨Ah, Aw, Ak, nh, ch, nw, cw, nk, ck, rfl, hok, hWh, hWw, hR⟩ := hV.open_
      obtain ⟨hs1, hs2, hs3⟩ := hself
      have hs2 : head.length ≤ 1000000 := hs2
      have hs3 : words.length ≤ 1000000 := hs3
      rw [count_mk] at hN
      have hEs : (w.alloc (.cells #[.int .i64 id.x, .int .i64 id.y, .int .i64 id.z, .int .i64 kind, .string label, .slice Ah nh ch, .slice Aw nw cw, .slice Ak nk ck] 27)).heap.size = w.heap.size + 1 := by simp
      have HB2 := Lib.hid (below2 w (.cells #[.int .i64 id.x, .int .i64 id.y, .int .i64 id.z, .int .i64 kind, .string label, .slice Ah nh ch, .slice Aw nw cw, .slice Ak nk ck] 27) (.cells #[.int .i64 0, .int .i64 0, .int .i64 0, .int .i64 0, .string ⟨#[]⟩, .slice none 0 0, .slice none 0 0, .slice none 0 0] 27))
      have HBx := Lib.hid ((Box8.new w 27 (.int .i64 id.x) (.int .i64 id.y) (.int .i64 id.z) (.int .i64 kind) (.string label) (.slice Ah nh ch) (.slice Aw nw cw) (.slice Ak nk ck)).below (alloc_below (w.alloc (.cells #[.int .i64 id.x, .int .i64 id.y, .int .i64 id.z, .int .i64 kind, .string label, .slice Ah nh ch, .slice Aw nw cw, .slice Ak nk ck] 27)) (.cells #[.int .i64 0, .int .i64 0, .int .i64 0, .int .i64 0, .string ⟨#[]⟩, .slice none 0 0, .slice none 0 0, .slice none 0 0] 27)) (by rw [hEs]; exact Nat.lt_succ_self _))
      have HBy := Lib.hid (by have h := Box8.new (w.alloc (.cells #[.int .i64 id.x, .int .i64 id.y, .int .i64 id.z, .int .i64 kind, .string label, .slice Ah nh ch, .slice Aw nw cw, .slice Ak nk ck] 27)) 27 (.int .i64 0) (.int .i64 0) (.int .i64 0) (.int .i64 0) (.string ⟨#[]⟩) (.slice none 0 0) (.slice none 0 0) (.slice none 0 0); rw [hEs] at h; exact h)
      have hfr : ∀ j, ((w.alloc (.cells #[.int .i64 id.x, .int .i64 id.y, .int .i64 id.z, .int .i64 kind, .string label, .slice Ah nh ch, .slice Aw nw cw, .slice Ak nk ck] 27)).alloc (.cells #[.int .i64 0, .int .i64 0, .int .i64 0, .int .i64 0, .string ⟨#[]⟩, .slice none 0 0, .slice none 0 0, .slice none 0 0] 27)).frozen? ⟨w.heap.size + 1, j, none⟩ = false := fun j => by rw [World.frozen?_alloc_at _ _ _ _ (by simp)]
      have hsz1 : ((w.alloc (.cells #[.int .i64 id.x, .int .i64 id.y, .int .i64 id.z, .int .i64 kind, .string label, .slice Ah nh ch, .slice Aw nw cw, .slice Ak nk ck] 27)).alloc (.cells #[.int .i64 0, .int .i64 0, .int .i64 0, .int .i64 0, .string ⟨#[]⟩, .slice none 0 0, .slice none 0 0, .slice none 0 0] 27)).heap.size = w.heap.size + 2 := by simp
      have HWh : Hid (∀ W, Below w.heap.size w W → Calls Tryd.prog 88 #[.slice Ah nh ch] W fun e w' => (∃ A' c', e = .returned (.slice A' nh c') ∧ WdsQ (Fresh W.heap.size w') w' A' nh c' (bareW head)) ∧ Below W.heap.size W w') := Lib.hid fun W hb => nomarks_any head nh ch Ah W (hWh.below hb) (by have := hWh.1; omega)
      have HWw : Hid (∀ W, Below w.heap.size w W → Calls Tryd.prog 88 #[.slice Aw nw cw] W fun e w' => (∃ A' c', e = .returned (.slice A' nw c') ∧ WdsQ (Fresh W.heap.size w') w' A' nw c' (bareW words)) ∧ Below W.heap.size W w') := Lib.hid fun W hb => nomarks_any words nw cw Aw W (hWw.below hb) (by have := hWw.1; omega)
      have HKd : Hid (∀ W, Below w.heap.size w W → Calls Tryd.prog 89 #[.agg #[.int .i64 id.x, .int .i64 id.y, .int .i64 id.z, .int .i64 kind, .string label, .slice Ah nh ch, .slice Aw nw cw, .slice Ak nk ck], .func (.func 41) #[] #[]] W fun e w' => (∃ A n c, e = .returned (.slice A n c) ∧ RowQ (Fresh W.heap.size w') w' A n c (Ut.strips kids)) ∧ Below W.heap.size W w') := Lib.hid fun W hb => by
        have h := eachkid_any 41 (Go.Proofs.enters_of Tryd.func41 (by kernel_rfl) rfl) Ut.strip _ _ W (hV0.below hb) hkl (fun x hx v' W' hb' hVx => by
          obtain ⟨k, hk, rfl⟩ := List.getElem_of_mem hx
          have h1 : kids[k].count < (Ut.mk id kind label head words kids).count := kid_lt (List.getElem?_eq_getElem hk)
          rw [count_mk] at h1
          exact ih _ _ _ (by show kids[k].count ≤ N; omega) ⟨by have h2 := sub_count _ _ _ (Nat.le_refl _) (kid_in (self_all _) hx); have := hM.1; omega, fun y hy => hM.2 y (all_trans _ _ _ (Nat.le_refl _) (kid_in (self_all _) hx) y hy)⟩ hVx)
        rw [show (Ut.mk id kind label head words kids).kids = kids from rfl, ← strips_map] at h
        exact h
      have HS : Hid (∀ W, Below (w.heap.size + 1) (w.alloc (.cells #[.int .i64 id.x, .int .i64 id.y, .int .i64 id.z, .int .i64 kind, .string label, .slice Ah nh ch, .slice Aw nw cw, .slice Ak nk ck] 27)) W → W.cell? ⟨w.heap.size, 0, none⟩ = some (.int .i64 id.x) ∧ W.cell? ⟨w.heap.size, 1, none⟩ = some (.int .i64 id.y) ∧ W.cell? ⟨w.heap.size, 2, none⟩ = some (.int .i64 id.z) ∧ W.cell? ⟨w.heap.size, 3, none⟩ = some (.int .i64 kind) ∧ W.cell? ⟨w.heap.size, 4, none⟩ = some (.string label) ∧ W.cell? ⟨w.heap.size, 5, none⟩ = some (.slice Ah nh ch) ∧ W.cell? ⟨w.heap.size, 6, none⟩ = some (.slice Aw nw cw) ∧ W.cell? ⟨w.heap.size, 7, none⟩ = some (.slice Ak nk ck)) := Lib.hid fun W hb => by
        obtain ⟨a0, a1, a2, a3, a4, a5, a6, a7⟩ := (Box8.new w 27 (.int .i64 id.x) (.int .i64 id.y) (.int .i64 id.z) (.int .i64 kind) (.string label) (.slice Ah nh ch) (.slice Aw nw cw) (.slice Ak nk ck)).below hb (by omega)
        exact ⟨a0, a1, a2, a3, a4, a5, a6, a7⟩
      have HT : Hid (∀ W, Below (w.heap.size + 2) ((w.alloc (.cells #[.int .i64 id.x, .int .i64 id.y, .int .i64 id.z, .int .i64 kind, .string label, .slice Ah nh ch, .slice Aw nw cw, .slice Ak nk ck] 27)).alloc (.cells #[.int .i64 0, .int .i64 0, .int .i64 0, .int .i64 0, .string ⟨#[]⟩, .slice none 0 0, .slice none 0 0, .slice none 0 0] 27)) W → W.cell? ⟨w.heap.size + 1, 0, none⟩ = some (.int .i64 0) ∧ W.cell? ⟨w.heap.size + 1, 1, none⟩ = some (.int .i64 0) ∧ W.cell? ⟨w.heap.size + 1, 2, none⟩ = some (.int .i64 0) ∧ W.cell? ⟨w.heap.size + 1, 3, none⟩ = some (.int .i64 0) ∧ W.cell? ⟨w.heap.size + 1, 4, none⟩ = some (.string ⟨#[]⟩) ∧ W.cell? ⟨w.heap.size + 1, 5, none⟩ = some (.slice none 0 0) ∧ W.cell? ⟨w.heap.size + 1, 6, none⟩ = some (.slice none 0 0) ∧ W.cell? ⟨w.heap.size + 1, 7, none⟩ = some (.slice none 0 0) ∧ W.frozen? ⟨w.heap.size + 1, 0, none⟩ = false ∧ W.frozen? ⟨w.heap.size + 1, 1, none⟩ = false ∧ W.frozen? ⟨w.heap.size + 1, 2, none⟩ = false ∧ W.frozen? ⟨w.heap.size + 1, 3, none⟩ = false ∧ W.frozen? ⟨w.heap.size + 1, 4, none⟩ = false ∧ W.frozen? ⟨w.heap.size + 1, 5, none⟩ = false ∧ W.frozen? ⟨w.heap.size + 1, 6, none⟩ = false ∧ W.frozen? ⟨w.heap.size + 1, 7, none⟩ = false) := Lib.hid fun W hb => by
        obtain ⟨b0, b1, b2, b3, b4, b5, b6, b7⟩ := HBy.out.below hb (by omega)
        have f := fun j => (hb.frozen (p := ⟨w.heap.size + 1, j, none⟩) (by show w.heap.size + 1 < w.heap.size + 2; omega)).trans (hfr j)
        exact ⟨b0, b1, b2, b3, b4, b5, b6, b7, f 0, f 1, f 2, f 3, f 4, f 5, f 6, f 7⟩
      have HZ : Hid (∀ W, Below (w.heap.size + 2) ((w.alloc (.cells #[.int .i64 id.x, .int .i64 id.y, .int .i64 id.z, .int .i64 kind, .string label, .slice Ah nh ch, .slice Aw nw cw, .slice Ak nk ck] 27)).alloc (.cells #[.int .i64 0, .int .i64 0, .int .i64 0, .int .i64 0, .string ⟨#[]⟩, .slice none 0 0, .slice none 0 0, .slice none 0 0] 27)) W → Below (w.heap.size + 1) (w.alloc (.cells #[.int .i64 id.x, .int .i64 id.y, .int .i64 id.z, .int .i64 kind, .string label, .slice Ah nh ch, .slice Aw nw cw, .slice Ak nk ck] 27)) W) := Lib.hid fun W hb => by
        have h1 := alloc_below (w.alloc (.cells #[.int .i64 id.x, .int .i64 id.y, .int .i64 id.z, .int .i64 kind, .string label, .slice Ah nh ch, .slice Aw nw cw, .slice Ak nk ck] 27)) (.cells #[.int .i64 0, .int .i64 0, .int .i64 0, .int .i64 0, .string ⟨#[]⟩, .slice none 0 0, .slice none 0 0, .slice none 0 0] 27)
        rw [hEs] at h1
        exact h1.trans (hb.mono (by omega))
      have HSc : Hid (∀ (W : World) (x0 x1 x2 x3 x4 x5 x6 x7 : Value), Below (w.heap.size + 1) (w.alloc (.cells #[.int .i64 id.x, .int .i64 id.y, .int .i64 id.z, .int .i64 kind, .string label, .slice Ah nh ch, .slice Aw nw cw, .slice Ak nk ck] 27)) W → Below (w.heap.size + 1) (w.alloc (.cells #[.int .i64 id.x, .int .i64 id.y, .int .i64 id.z, .int .i64 kind, .string label, .slice Ah nh ch, .slice Aw nw cw, .slice Ak nk ck] 27)) ((((((((W.setCell ⟨w.heap.size + 1, 0, none⟩ x0).setCell ⟨w.heap.size + 1, 1, none⟩ x1).setCell ⟨w.heap.size + 1, 2, none⟩ x2).setCell ⟨w.heap.size + 1, 3, none⟩ x3).setCell ⟨w.heap.size + 1, 4, none⟩ x4).setCell ⟨w.heap.size + 1, 5, none⟩ x5).setCell ⟨w.heap.size + 1, 6, none⟩ x6).setCell ⟨w.heap.size + 1, 7, none⟩ x7)) := Lib.hid fun W x0 x1 x2 x3 x4 x5 x6 x7 hb =>
        (((((((hb.setCell (p := ⟨w.heap.size + 1, 0, none⟩) (Nat.le_refl _) _).setCell (p := ⟨w.heap.size + 1, 1, none⟩) (Nat.le_refl _) _).setCell (p := ⟨w.heap.size + 1, 2, none⟩) (Nat.le_refl _) _).setCell (p := ⟨w.heap.size + 1, 3, none⟩) (Nat.le_refl _) _).setCell (p := ⟨w.heap.size + 1, 4, none⟩) (Nat.le_refl _) _).setCell (p := ⟨w.heap.size + 1, 5, none⟩) (Nat.le_refl _) _).setCell (p := ⟨w.heap.size + 1, 6, none⟩) (Nat.le_refl _) _).setCell (p := ⟨w.heap.size + 1, 7, none⟩) (Nat.le_refl _) _
      have HB1 : Hid (Below w.heap.size w ((w.alloc (.cells #[.int .i64 id.x, .int .i64 id.y, .int .i64 id.z, .int .i64 kind, .string label, .slice Ah nh ch, .slice Aw nw cw, .slice Ak nk ck] 27)).alloc (.cells #[.int .i64 0, .int .i64 0, .int .i64 0, .int .i64 0, .string ⟨#[]⟩, .slice none 0 0, .slice none 0 0, .slice none 0 0] 27))) := HB2
      have HSz := Lib.hid hsz1
      have HOk := Lib.hid hok.2
      have HG2 : Hid (∀ W, Below (w.heap.size + 2) ((w.alloc (.cells #[.int .i64 id.x, .int .i64 id.y, .int .i64 id.z, .int .i64 kind, .string label, .slice Ah nh ch, .slice Aw nw cw, .slice Ak nk ck] 27)).alloc (.cells #[.int .i64 0, .int .i64 0, .int .i64 0, .int .i64 0, .string ⟨#[]⟩, .slice none 0 0, .slice none 0 0, .slice none 0 0] 27)) W → w.heap.size + 2 ≤ W.heap.size) := Lib.hid fun W h => by have := h.size; omega
      have HUd : Hid (∀ W, Below ((w.alloc (.cells #[.int .i64 id.x, .int .i64 id.y, .int .i64 id.z, .int .i64 kind, .string label, .slice Ah nh ch, .slice Aw nw cw, .slice Ak nk ck] 27)).alloc (.cells #[.int .i64 0, .int .i64 0, .int .i64 0, .int .i64 0, .string ⟨#[]⟩, .slice none 0 0, .slice none 0 0, .slice none 0 0] 27)).heap.size ((w.alloc (.cells #[.int .i64 id.x, .int .i64 id.y, .int .i64 id.z, .int .i64 kind, .string label, .slice Ah nh ch, .slice Aw nw cw, .slice Ak nk ck] 27)).alloc (.cells #[.int .i64 0, .int .i64 0, .int .i64 0, .int .i64 0, .string ⟨#[]⟩, .slice none 0 0, .slice none 0 0, .slice none 0 0] 27)) W → Below (w.heap.size + 2) ((w.alloc (.cells #[.int .i64 id.x, .int .i64 id.y, .int .i64 id.z, .int .i64 kind, .string label, .slice Ah nh ch, .slice Aw nw cw, .slice Ak nk ck] 27)).alloc (.cells #[.int .i64 0, .int .i64 0, .int .i64 0, .int .i64 0, .string ⟨#[]⟩, .slice none 0 0, .slice none 0 0, .slice none 0 0] 27)) W) := Lib.hid fun W h => by rwa [hsz1] at h
      clear hR hV hV0 ih hN hM hok hWh hWw hfr hs1 hs2 hs3 hkl hEs hsz1
      go_enter Tryd.func41, Tryd.ntmps41
      go_wp2_with fail
      go_region_held3 (fun w' => w'.cell? ⟨w.heap.size, 0, none⟩ = some (.int .i64 id.x) ∧ w'.cell? ⟨w.heap.size, 1, none⟩ = some (.int .i64 id.y) ∧ w'.cell? ⟨w.heap.size, 2, none⟩ = some (.int .i64 id.z) ∧ w'.cell? ⟨w.heap.size, 3, none⟩ = some (.int .i64 kind) ∧ w'.cell? ⟨w.heap.size, 4, none⟩ = some (.string label) ∧ w'.cell? ⟨w.heap.size, 5, none⟩ = some (.slice Ah nh ch) ∧ w'.cell? ⟨w.heap.size, 6, none⟩ = some (.slice Aw nw cw) ∧ w'.cell? ⟨w.heap.size, 7, none⟩ = some (.slice Ak nk ck))
        (with_reducible (first | exact HS.out _ (HSc.out _ _ _ _ _ _ _ _ _ hy4) | exact HS.out _ hy4 | exact HS.out _ hy3 | exact HS.out _ hy2 | exact HS.out _ (HZ.out _ (Below.refl _ _).drew) | exact HS.out _ (HZ.out _ (Below.refl _ _))))
        (first
          | (go_at_call 88; with_reducible refine (HWh.out _ ?_).mono ?_; (with_reducible exact HB1.out.drew); rintro e w2 ⟨⟨A2, c2, rfl, q2⟩, hb2⟩; have hz2 := HUd.out _ (undrew hb2); have hy2 := HZ.out _ hz2)
          | (go_at_call 88; with_reducible refine (HWw.out _ ?_).mono ?_; (with_reducible exact HB1.out.trans (hz2.mono (Nat.le_add_right _ _))); rintro e w3 ⟨⟨A3, c3, rfl, q3⟩, hb3⟩; have hz3 := hz2.trans (hb3.mono (HG2.out _ hz2)); have hy3 := HZ.out _ hz3)
          | (go_at_call 89; with_reducible refine (HKd.out _ ?_).mono ?_; (with_reducible exact HB1.out.trans (hz3.mono (Nat.le_add_right _ _))); rintro e w4 ⟨⟨A4, n4, c4, rfl, q4⟩, hb4⟩; have hz4 := hz3.trans (hb4.mono (HG2.out _ hz3)); have hy4 := HZ.out _ hz4; obtain ⟨t0, t1, t2, t3, t4, t5, t6, t7, f0, f1, f2, f3, f4, f5, f6, f7⟩ := HT.out _ hz4))
      have hbx := set8_box (.int .i64 0) (.int .i64 0) (.int .i64 0) (.int .i64 kind) (.string label) (.slice A2 nh c2) (.slice A3 nw c3) (.slice A4 n4 c4) (⟨t0, t1, t2, t3, t4, t5, t6, t7⟩ : Box8 w4 (w.heap.size + 1) _ _ _ _ _ _ _ _)
      have hS4 := HSc.out _ (.int .i64 0) (.int .i64 0) (.int .i64 0) (.int .i64 kind) (.string label) (.slice A2 nh c2) (.slice A3 nw c3) (.slice A4 n4 c4) hy4
      have hz23 := hb3.size
      have hz34 := hb4.size
      have hzw := HSz.out
      have hse := set8_size w4 (w.heap.size + 1) (.int .i64 0) (.int .i64 0) (.int .i64 0) (.int .i64 kind) (.string label) (.slice A2 nh c2) (.slice A3 nw c3) (.slice A4 n4 c4)
      have hot := set8_other w4 (w.heap.size + 1) (.int .i64 0) (.int .i64 0) (.int .i64 0) (.int .i64 kind) (.string label) (.slice A2 nh c2) (.slice A3 nw c3) (.slice A4 n4 c4)
      go_wp2_with fail
      refine bodyPost_ret (res8 rfl _ _ (w.heap.size + 1) _ _ _ _ _ _ _ _ rfl hbx) rfl ?_
      have hz2' : w.heap.size + 2 ≤ w2.heap.size := HG2.out _ hz2
      rw [show (Ut.mk id kind label head words kids).strip = .mk .zero kind label (bareW head) (bareW words) (Ut.strips kids) from strip_mk _ _ _ _ _ _]
      refine ⟨⟨_, rfl, UtVQ.mk_ (id := .zero) ⟨zero_ok, HOk.out⟩ (q2.later fun b hb => ?_) (q3.later fun b hb => ?_) (q4.later fun b hb => ?_)⟩, (alloc_below w (.cells #[.int .i64 id.x, .int .i64 id.y, .int .i64 id.z, .int .i64 kind, .string label, .slice Ah nh ch, .slice Aw nw cw, .slice Ak nk ck] 27)).trans (hS4.mono (Nat.le_succ _))⟩
      · have g1 : w.heap.size + 2 ≤ b := by have := hb.1; exact Nat.le_trans (Nat.le_of_eq hzw.symm) this
        have g2 := hb.2
        exact ⟨⟨by omega, by rw [hse]; omega⟩, by rw [hot b (by omega), hb4.block b (by omega), hb3.block b (by omega)]⟩
      · have g1 := hb.1
        have g2 := hb.2
        exact ⟨⟨by omega, by rw [hse]; omega⟩, by rw [hot b (by omega), hb4.block b (by omega)]⟩
      · have g1 := hb.1
        have g2 := hb.2
        exact ⟨⟨by omega, by rw [hse]; omega⟩, by rw [hot b (by omega)]⟩
end Go.Proofs.YtcacnelhppakoaaDoor
