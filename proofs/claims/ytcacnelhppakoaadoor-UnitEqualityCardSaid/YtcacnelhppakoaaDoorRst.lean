/-
  The reference: Strip.
-/
import Derived.Deep.RegionHeld3
import Derived.Deep.CutRange
import Derived.Deep.RegionLaw
import Derived.Test.YtcacnelhppakoaaDoorStp
namespace Go.Proofs.YtcacnelhppakoaaDoor
open Go.RowKit (wrap32 wrap64 intOf Hid Below)
open Lab Lcs

/-- A cleared unit in memory, which may be written. -/
def Zbox (W : World) (g : Nat) : Prop := g < W.heap.size ∧ Box8 W g (.int .i64 0) (.int .i64 0) (.int .i64 0) (.int .i64 0) (.string ⟨#[]⟩) (.slice none 0 0) (.slice none 0 0) (.slice none 0 0) ∧ ∀ j, W.frozen? ⟨g, j, none⟩ = false
theorem Zbox.below {W W' : World} {g : Nat} (h : Zbox W g) (hb : Below W.heap.size W W') : Zbox W' g :=
  ⟨Nat.lt_of_lt_of_le h.1 hb.size, h.2.1.below hb h.1, fun j => (hb.frozen (p := ⟨g, j, none⟩) h.1).trans (h.2.2 j)⟩
theorem Zbox.new {W W' : World} (hb : Below (W.alloc (.cells #[.int .i64 0, .int .i64 0, .int .i64 0, .int .i64 0, .string ⟨#[]⟩, .slice none 0 0, .slice none 0 0, .slice none 0 0] 27)).heap.size (W.alloc (.cells #[.int .i64 0, .int .i64 0, .int .i64 0, .int .i64 0, .string ⟨#[]⟩, .slice none 0 0, .slice none 0 0, .slice none 0 0] 27)) W') : Zbox W' W.heap.size ∧ Below W.heap.size W W' := by
  have h1 := alloc_below W (.cells #[.int .i64 0, .int .i64 0, .int .i64 0, .int .i64 0, .string ⟨#[]⟩, .slice none 0 0, .slice none 0 0, .slice none 0 0] 27)
  have h2 := alloc_lt W (.cells #[.int .i64 0, .int .i64 0, .int .i64 0, .int .i64 0, .string ⟨#[]⟩, .slice none 0 0, .slice none 0 0, .slice none 0 0] 27)
  have h3 : Zbox (W.alloc (.cells #[.int .i64 0, .int .i64 0, .int .i64 0, .int .i64 0, .string ⟨#[]⟩, .slice none 0 0, .slice none 0 0, .slice none 0 0] 27)) W.heap.size := ⟨h2, Box8.new W _ _ _ _ _ _ _ _ _, fun j => by rw [World.frozen?_alloc_at _ _ _ _ rfl]⟩
  exact ⟨h3.below hb, h1.trans (hb.mono h1.size)⟩
theorem Zbox.cells {W : World} {g : Nat} (h : Zbox W g) : W.cell? ⟨g, 0, none⟩ = some (.int .i64 0) ∧ W.cell? ⟨g, 1, none⟩ = some (.int .i64 0) ∧ W.cell? ⟨g, 2, none⟩ = some (.int .i64 0) ∧ W.cell? ⟨g, 3, none⟩ = some (.int .i64 0) ∧ W.cell? ⟨g, 4, none⟩ = some (.string ⟨#[]⟩) ∧ W.cell? ⟨g, 5, none⟩ = some (.slice none 0 0) ∧ W.cell? ⟨g, 6, none⟩ = some (.slice none 0 0) ∧ W.cell? ⟨g, 7, none⟩ = some (.slice none 0 0) ∧
    W.frozen? ⟨g, 0, none⟩ = false ∧ W.frozen? ⟨g, 1, none⟩ = false ∧ W.frozen? ⟨g, 2, none⟩ = false ∧ W.frozen? ⟨g, 3, none⟩ = false ∧ W.frozen? ⟨g, 4, none⟩ = false ∧ W.frozen? ⟨g, 5, none⟩ = false ∧ W.frozen? ⟨g, 6, none⟩ = false ∧ W.frozen? ⟨g, 7, none⟩ = false := by
  obtain ⟨_, ⟨b0, b1, b2, b3, b4, b5, b6, b7⟩, f⟩ := h
  exact ⟨b0, b1, b2, b3, b4, b5, b6, b7, f 0, f 1, f 2, f 3, f 4, f 5, f 6, f 7⟩
/-- A store of a unit. -/
abbrev set8 (W : World) (g : Nat) (y0 y1 y2 y3 y4 y5 y6 y7 : Value) : World := (((((((W.setCell ⟨g, 0, none⟩ y0).setCell ⟨g, 1, none⟩ y1).setCell ⟨g, 2, none⟩ y2).setCell ⟨g, 3, none⟩ y3).setCell ⟨g, 4, none⟩ y4).setCell ⟨g, 5, none⟩ y5).setCell ⟨g, 6, none⟩ y6).setCell ⟨g, 7, none⟩ y7
theorem set8_below {N : Nat} {w0 W : World} (g : Nat) (hg : N ≤ g) (y0 y1 y2 y3 y4 y5 y6 y7 : Value) (hb : Below N w0 W) : Below N w0 (set8 W g y0 y1 y2 y3 y4 y5 y6 y7) :=
  (((((((hb.setCell (p := ⟨g, 0, none⟩) hg _).setCell (p := ⟨g, 1, none⟩) hg _).setCell (p := ⟨g, 2, none⟩) hg _).setCell (p := ⟨g, 3, none⟩) hg _).setCell (p := ⟨g, 4, none⟩) hg _).setCell (p := ⟨g, 5, none⟩) hg _).setCell (p := ⟨g, 6, none⟩) hg _).setCell (p := ⟨g, 7, none⟩) hg _
/-- A unit laid anew, with words. -/
def Mid (N : Nat) (w0 wx : World) (t : Value) (kind : Int) (label : Str) (nh nw : Nat) (L2 L3 : List Wd) : Prop :=
  ∃ (g : Nat) (A2 A3 : Option Addr) (c2 c3 : Nat), t = .pointer (some ⟨g, 0, none⟩) ∧ N ≤ g ∧ g < wx.heap.size ∧ Box8 wx g (.int .i64 0) (.int .i64 0) (.int .i64 0) (.int .i64 kind) (.string label) (.slice A2 nh c2) (.slice A3 nw c3) (.slice none 0 0) ∧ (∀ j, wx.frozen? ⟨g, j, none⟩ = false) ∧ WdsQ (fun b => N ≤ b ∧ b < wx.heap.size ∧ b ≠ g) wx A2 nh c2 L2 ∧ WdsQ (fun b => N ≤ b ∧ b < wx.heap.size ∧ b ≠ g) wx A3 nw c3 L3 ∧ Below N w0 wx
theorem mid_set {N g nh nw c2 c3 : Nat} {w0 w2 w3 : World} {A2 A3 : Option Addr} {L2 L3 : List Wd} {P2 P3 : Nat → Prop} {kind : Int} {label : Str} (hN : N ≤ g) (zz : Zbox w3 g) (h02 : Below N w0 w2) (h23 : Below w2.heap.size w2 w3) (hN2 : N ≤ w2.heap.size)
    (q2 : WdsQ P2 w2 A2 nh c2 L2) (h2 : ∀ b, P2 b → N ≤ b ∧ b < w2.heap.size ∧ b ≠ g) (q3 : WdsQ P3 w3 A3 nw c3 L3) (h3 : ∀ b, P3 b → N ≤ b ∧ b < w3.heap.size ∧ b ≠ g) :
    Mid N w0 (set8 w3 g (.int .i64 0) (.int .i64 0) (.int .i64 0) (.int .i64 kind) (.string label) (.slice A2 nh c2) (.slice A3 nw c3) (.slice none 0 0)) (.pointer (some ⟨g, 0, none⟩)) kind label nh nw L2 L3 := by
  have h4 := h23.size
  have hs := set8_size w3 g (.int .i64 0) (.int .i64 0) (.int .i64 0) (.int .i64 kind) (.string label) (.slice A2 nh c2) (.slice A3 nw c3) (.slice none 0 0)
  have ho := set8_other w3 g (.int .i64 0) (.int .i64 0) (.int .i64 0) (.int .i64 kind) (.string label) (.slice A2 nh c2) (.slice A3 nw c3) (.slice none 0 0)
  refine ⟨g, A2, A3, c2, c3, rfl, hN, by rw [hs]; exact zz.1, set8_box _ _ _ _ _ _ _ _ zz.2.1, fun j => by simp only [World.frozen?_setCell]; exact zz.2.2 j, q2.later fun b hb => ?_, q3.later fun b hb => ?_, set8_below g hN _ _ _ _ _ _ _ _ (h02.trans (h23.mono hN2))⟩
  · obtain ⟨a1, a2, a3⟩ := h2 b hb
    exact ⟨⟨a1, by rw [hs]; omega, a3⟩, by rw [ho b a3, h23.block b a2]⟩
  · obtain ⟨a1, a2, a3⟩ := h3 b hb
    exact ⟨⟨a1, by rw [hs]; omega, a3⟩, by rw [ho b a3]⟩
theorem mid_alloc {N nh nw c2 c3 : Nat} {w0 w2 w3 : World} {A2 A3 : Option Addr} {L2 L3 : List Wd} {P2 P3 : Nat → Prop} {kind : Int} {label : Str} (h02 : Below N w0 w2) (h23 : Below w2.heap.size w2 w3) (hN2 : N ≤ w2.heap.size)
    (q2 : WdsQ P2 w2 A2 nh c2 L2) (h2 : ∀ b, P2 b → N ≤ b ∧ b < w2.heap.size) (q3 : WdsQ P3 w3 A3 nw c3 L3) (h3 : ∀ b, P3 b → N ≤ b ∧ b < w3.heap.size) :
    Mid N w0 (w3.alloc (.cells #[.int .i64 0, .int .i64 0, .int .i64 0, .int .i64 kind, .string label, .slice A2 nh c2, .slice A3 nw c3, .slice none 0 0] 27)) (.pointer (some ⟨w3.heap.size, 0, none⟩)) kind label nh nw L2 L3 := by
  have h4 := h23.size
  have hb := alloc_below w3 (.cells #[.int .i64 0, .int .i64 0, .int .i64 0, .int .i64 kind, .string label, .slice A2 nh c2, .slice A3 nw c3, .slice none 0 0] 27)
  have hl := alloc_lt w3 (.cells #[.int .i64 0, .int .i64 0, .int .i64 0, .int .i64 kind, .string label, .slice A2 nh c2, .slice A3 nw c3, .slice none 0 0] 27)
  refine ⟨w3.heap.size, A2, A3, c2, c3, rfl, by omega, hl, Box8.new w3 _ _ _ _ _ _ _ _ _, fun j => by rw [World.frozen?_alloc_at _ _ _ _ rfl], q2.later fun b hb2 => ?_, q3.later fun b hb3 => ?_, (h02.trans (h23.mono hN2)).trans (hb.mono (by omega))⟩
  · obtain ⟨a1, a2⟩ := h2 b hb2
    exact ⟨⟨a1, by omega, by omega⟩, by rw [hb.block b (by omega), h23.block b a2]⟩
  · obtain ⟨a1, a2⟩ := h3 b hb3
    exact ⟨⟨a1, by omega, by omega⟩, by rw [hb.block b (by omega)]⟩
/-- The unit that is being filled: all else as it was. -/
def Kept (N M g : Nat) (w0 wc wr : World) (kind : Int) (label : Str) (s5 s6 s7 : Value) : Prop := Below N w0 wr ∧ M ≤ wr.heap.size ∧ (∀ b, b < M → b ≠ g → wr.heap[b]? = wc.heap[b]?) ∧ Box8 wr g (.int .i64 0) (.int .i64 0) (.int .i64 0) (.int .i64 kind) (.string label) s5 s6 s7 ∧ ∀ j, wr.frozen? ⟨g, j, none⟩ = false
theorem Kept.set {N M g : Nat} {w0 wc wr w3 : World} {kind : Int} {label : Str} {s5 s6 s7 : Value} (h : Kept N M g w0 wc wr kind label s5 s6 s7) (hb : Below M wr w3) (hN : N ≤ g) (hg : g < M) (hNM : N ≤ M) (s : Value) : Kept N M g w0 wc (w3.setCell ⟨g, 7, none⟩ s) kind label s5 s6 s := by
  obtain ⟨h1, h2, h3, h4, h5⟩ := h
  obtain ⟨b0, b1, b2, b3, b4, b5, b6, b7⟩ := h4.below hb hg
  refine ⟨(h1.trans (hb.mono hNM)).setCell (p := ⟨g, 7, none⟩) hN _, by rw [World.size_setCell]; exact Nat.le_trans h2 hb.size, fun b hbM hne => ?_, ?_, fun j => ?_⟩
  · rw [Below.heap_setCell _ _ _ _ hne, hb.block b hbM]
    exact h3 b hbM hne
  · refine ⟨?_, ?_, ?_, ?_, ?_, ?_, ?_, ?_⟩ <;> simp [World.cell?_setCell_same', World.cell?_setCell_other, b0, b1, b2, b3, b4, b5, b6, b7]
  · rw [World.frozen?_setCell]
    exact (hb.frozen (p := ⟨g, j, none⟩) hg).trans (h5 j)
theorem own_set {w : World} {base n size : Nat} {e : TypeId} {v s : Value} {xs : List Value} {g : Nat} (h : w.ownsRow base e size v n xs) (hg : g < base) : (w.setCell ⟨g, 7, none⟩ s).ownsRow base e size v n xs :=
  h.kept (row := some g) ⟨((Below.refl 0 w).setCell (p := ⟨g, 7, none⟩) (Nat.zero_le _) s).os, ((Below.refl 0 w).setCell (p := ⟨g, 7, none⟩) (Nat.zero_le _) s).tape, ((Below.refl 0 w).setCell (p := ⟨g, 7, none⟩) (Nat.zero_le _) s).output, ((Below.refl 0 w).setCell (p := ⟨g, 7, none⟩) (Nat.zero_le _) s).size, fun k _ hk => Below.heap_setCell _ _ _ _ (fun h => hk (by rw [h]))⟩ (by
    cases hv : v.ownBlock with
    | none => exact Or.inl rfl
    | some k => exact Or.inr (fun he => by injection he with he; have := (h.lt k hv).1; omega))
theorem Units.set {base g : Nat} {w : World} {ob : Option Nat} {us : List (Ut × List Value)} {s : Value} (h : Units base w ob us) (hg : g < base) : Units base (w.setCell ⟨g, 7, none⟩ s) ob us := fun p hp =>
  ⟨UtQ.imp (fun b hb => ⟨hb.1, by rw [World.size_setCell]; exact hb.2.1, hb.2.2⟩) (fun b hb => Below.heap_setCell _ _ _ _ (show b ≠ g by have := hb.1; omega)) _ _ (h p hp).1, (h p hp).2⟩
set_option maxHeartbeats 4000000 in
set_option maxRecDepth 100000 in
theorem rstrip_any (N : Nat) : ∀ (u : Ut) (v : Value) (w : World), u.count ≤ N → Tame u → UtV w u v →
    Calls Tryd.prog 42 #[v] w fun e w' => (∃ v', e = .returned v' ∧ UtVQ (Fresh w.heap.size w') w' u.strip v') ∧ Below w.heap.size w w' := by
  induction N with
  | zero => intro u v w hN _ _; have := count_pos u; omega
  | succ N ih =>
    intro u v w hN hM hV
    have hV0 := hV
    have hself := hM.2 u (self_all u)
    have hkl := (hM.kids u (self_all u)).2
    cases u with
    | mk id kind label head words kids =>
      obtain ⟨Ah, Aw, Ak, nh, ch, nw, cw, nk, ck, rfl, hok, hWh, hWw, hR⟩ := hV.open_
      obtain ⟨hs1, hs2, hs3⟩ := hself
      have hs2 : head.length ≤ 1000000 := hs2
      have hs3 : words.length ≤ 1000000 := hs3
      rw [count_mk] at hN
      have hEs : (w.alloc (.cells #[.int .i64 id.x, .int .i64 id.y, .int .i64 id.z, .int .i64 kind, .string label, .slice Ah nh ch, .slice Aw nw cw, .slice Ak nk ck] 27)).heap.size = w.heap.size + 1 := by simp
      have HEs := Lib.hid hEs
      have HWh : Hid (∀ W, Below w.heap.size w W → Calls Tryd.prog 90 #[.slice Ah nh ch] W fun e w' => (∃ A' c', e = .returned (.slice A' nh c') ∧ WdsQ (Fresh W.heap.size w') w' A' nh c' (bareW head)) ∧ Below W.heap.size W w') := Lib.hid fun W hb => bared_any head nh ch Ah W (hWh.below hb) (by have := hWh.1; omega)
      have HWw : Hid (∀ W, Below w.heap.size w W → Calls Tryd.prog 90 #[.slice Aw nw cw] W fun e w' => (∃ A' c', e = .returned (.slice A' nw c') ∧ WdsQ (Fresh W.heap.size w') w' A' nw c' (bareW words)) ∧ Below W.heap.size W w') := Lib.hid fun W hb => bared_any words nw cw Aw W (hWw.below hb) (by have := hWw.1; omega)
      have HS : Hid (∀ W, Below (w.heap.size + 1) (w.alloc (.cells #[.int .i64 id.x, .int .i64 id.y, .int .i64 id.z, .int .i64 kind, .string label, .slice Ah nh ch, .slice Aw nw cw, .slice Ak nk ck] 27)) W → W.cell? ⟨w.heap.size, 3, none⟩ = some (.int .i64 kind) ∧ W.cell? ⟨w.heap.size, 4, none⟩ = some (.string label) ∧ W.cell? ⟨w.heap.size, 5, none⟩ = some (.slice Ah nh ch) ∧ W.cell? ⟨w.heap.size, 6, none⟩ = some (.slice Aw nw cw) ∧ W.cell? ⟨w.heap.size, 7, none⟩ = some (.slice Ak nk ck)) := Lib.hid fun W hb => by
        obtain ⟨a0, a1, a2, a3, a4, a5, a6, a7⟩ := (Box8.new w 27 (.int .i64 id.x) (.int .i64 id.y) (.int .i64 id.z) (.int .i64 kind) (.string label) (.slice Ah nh ch) (.slice Aw nw cw) (.slice Ak nk ck)).below hb (by omega)
        exact ⟨a3, a4, a5, a6, a7⟩
      have HB2 := Lib.hid (below2 w (.cells #[.int .i64 id.x, .int .i64 id.y, .int .i64 id.z, .int .i64 kind, .string label, .slice Ah nh ch, .slice Aw nw cw, .slice Ak nk ck] 27) (.cells #[.int .i64 0, .int .i64 0, .int .i64 0, .int .i64 0, .string ⟨#[]⟩, .slice none 0 0, .slice none 0 0, .slice none 0 0] 27))
      have HZ0 : Hid (Below (w.heap.size + 1) (w.alloc (.cells #[.int .i64 id.x, .int .i64 id.y, .int .i64 id.z, .int .i64 kind, .string label, .slice Ah nh ch, .slice Aw nw cw, .slice Ak nk ck] 27)) ((w.alloc (.cells #[.int .i64 id.x, .int .i64 id.y, .int .i64 id.z, .int .i64 kind, .string label, .slice Ah nh ch, .slice Aw nw cw, .slice Ak nk ck] 27)).alloc (.cells #[.int .i64 0, .int .i64 0, .int .i64 0, .int .i64 0, .string ⟨#[]⟩, .slice none 0 0, .slice none 0 0, .slice none 0 0] 27))) := Lib.hid (by have h1 := alloc_below (w.alloc (.cells #[.int .i64 id.x, .int .i64 id.y, .int .i64 id.z, .int .i64 kind, .string label, .slice Ah nh ch, .slice Aw nw cw, .slice Ak nk ck] 27)) (.cells #[.int .i64 0, .int .i64 0, .int .i64 0, .int .i64 0, .string ⟨#[]⟩, .slice none 0 0, .slice none 0 0, .slice none 0 0] 27); rwa [hEs] at h1)
      have HAl : Hid (∀ W o, Below (w.heap.size + 1) (w.alloc (.cells #[.int .i64 id.x, .int .i64 id.y, .int .i64 id.z, .int .i64 kind, .string label, .slice Ah nh ch, .slice Aw nw cw, .slice Ak nk ck] 27)) W → Below (w.heap.size + 1) (w.alloc (.cells #[.int .i64 id.x, .int .i64 id.y, .int .i64 id.z, .int .i64 kind, .string label, .slice Ah nh ch, .slice Aw nw cw, .slice Ak nk ck] 27)) (W.alloc o)) := Lib.hid fun W o h => h.trans ((alloc_below W o).mono (by have := h.size; omega))
      have HNew : Hid (∀ W', Below (((w.alloc (.cells #[.int .i64 id.x, .int .i64 id.y, .int .i64 id.z, .int .i64 kind, .string label, .slice Ah nh ch, .slice Aw nw cw, .slice Ak nk ck] 27)).alloc (.cells #[.int .i64 0, .int .i64 0, .int .i64 0, .int .i64 0, .string ⟨#[]⟩, .slice none 0 0, .slice none 0 0, .slice none 0 0] 27)).alloc (.cells #[.int .i64 0, .int .i64 0, .int .i64 0, .int .i64 0, .string ⟨#[]⟩, .slice none 0 0, .slice none 0 0, .slice none 0 0] 27)).heap.size (((w.alloc (.cells #[.int .i64 id.x, .int .i64 id.y, .int .i64 id.z, .int .i64 kind, .string label, .slice Ah nh ch, .slice Aw nw cw, .slice Ak nk ck] 27)).alloc (.cells #[.int .i64 0, .int .i64 0, .int .i64 0, .int .i64 0, .string ⟨#[]⟩, .slice none 0 0, .slice none 0 0, .slice none 0 0] 27)).alloc (.cells #[.int .i64 0, .int .i64 0, .int .i64 0, .int .i64 0, .string ⟨#[]⟩, .slice none 0 0, .slice none 0 0, .slice none 0 0] 27)) W' → Zbox W' (w.heap.size + 1 + 1) ∧ Below ((w.alloc (.cells #[.int .i64 id.x, .int .i64 id.y, .int .i64 id.z, .int .i64 kind, .string label, .slice Ah nh ch, .slice Aw nw cw, .slice Ak nk ck] 27)).alloc (.cells #[.int .i64 0, .int .i64 0, .int .i64 0, .int .i64 0, .string ⟨#[]⟩, .slice none 0 0, .slice none 0 0, .slice none 0 0] 27)).heap.size ((w.alloc (.cells #[.int .i64 id.x, .int .i64 id.y, .int .i64 id.z, .int .i64 kind, .string label, .slice Ah nh ch, .slice Aw nw cw, .slice Ak nk ck] 27)).alloc (.cells #[.int .i64 0, .int .i64 0, .int .i64 0, .int .i64 0, .string ⟨#[]⟩, .slice none 0 0, .slice none 0 0, .slice none 0 0] 27)) W') := Lib.hid fun W' hb => by
        have h := Zbox.new hb
        rwa [show ((w.alloc (.cells #[.int .i64 id.x, .int .i64 id.y, .int .i64 id.z, .int .i64 kind, .string label, .slice Ah nh ch, .slice Aw nw cw, .slice Ak nk ck] 27)).alloc (.cells #[.int .i64 0, .int .i64 0, .int .i64 0, .int .i64 0, .string ⟨#[]⟩, .slice none 0 0, .slice none 0 0, .slice none 0 0] 27)).heap.size = w.heap.size + 1 + 1 by simp] at h ⊢
      have HN2 : Hid (((w.alloc (.cells #[.int .i64 id.x, .int .i64 id.y, .int .i64 id.z, .int .i64 kind, .string label, .slice Ah nh ch, .slice Aw nw cw, .slice Ak nk ck] 27)).alloc (.cells #[.int .i64 0, .int .i64 0, .int .i64 0, .int .i64 0, .string ⟨#[]⟩, .slice none 0 0, .slice none 0 0, .slice none 0 0] 27)).heap.size = w.heap.size + 2) := Lib.hid (by simp)
      have HN3 : Hid ((((w.alloc (.cells #[.int .i64 id.x, .int .i64 id.y, .int .i64 id.z, .int .i64 kind, .string label, .slice Ah nh ch, .slice Aw nw cw, .slice Ak nk ck] 27)).alloc (.cells #[.int .i64 0, .int .i64 0, .int .i64 0, .int .i64 0, .string ⟨#[]⟩, .slice none 0 0, .slice none 0 0, .slice none 0 0] 27)).alloc (.cells #[.int .i64 0, .int .i64 0, .int .i64 0, .int .i64 0, .string ⟨#[]⟩, .slice none 0 0, .slice none 0 0, .slice none 0 0] 27)).heap.size = w.heap.size + 3) := Lib.hid (by simp)
      have HZr : Hid (∀ W, Below (w.heap.size + 2) ((w.alloc (.cells #[.int .i64 id.x, .int .i64 id.y, .int .i64 id.z, .int .i64 kind, .string label, .slice Ah nh ch, .slice Aw nw cw, .slice Ak nk ck] 27)).alloc (.cells #[.int .i64 0, .int .i64 0, .int .i64 0, .int .i64 0, .string ⟨#[]⟩, .slice none 0 0, .slice none 0 0, .slice none 0 0] 27)) W → W.cell? ⟨w.heap.size + 1, 0, none⟩ = some (.int .i64 0) ∧ W.cell? ⟨w.heap.size + 1, 1, none⟩ = some (.int .i64 0) ∧ W.cell? ⟨w.heap.size + 1, 2, none⟩ = some (.int .i64 0) ∧ W.cell? ⟨w.heap.size + 1, 3, none⟩ = some (.int .i64 0) ∧ W.cell? ⟨w.heap.size + 1, 4, none⟩ = some (.string ⟨#[]⟩) ∧ W.cell? ⟨w.heap.size + 1, 5, none⟩ = some (.slice none 0 0) ∧ W.cell? ⟨w.heap.size + 1, 6, none⟩ = some (.slice none 0 0) ∧ W.cell? ⟨w.heap.size + 1, 7, none⟩ = some (.slice none 0 0) ∧ W.frozen? ⟨w.heap.size + 1, 0, none⟩ = false ∧ W.frozen? ⟨w.heap.size + 1, 1, none⟩ = false ∧ W.frozen? ⟨w.heap.size + 1, 2, none⟩ = false ∧ W.frozen? ⟨w.heap.size + 1, 3, none⟩ = false ∧ W.frozen? ⟨w.heap.size + 1, 4, none⟩ = false ∧ W.frozen? ⟨w.heap.size + 1, 5, none⟩ = false ∧ W.frozen? ⟨w.heap.size + 1, 6, none⟩ = false ∧ W.frozen? ⟨w.heap.size + 1, 7, none⟩ = false) := Lib.hid fun W hb => by
        have hz := (Zbox.new (Below.refl _ ((w.alloc (.cells #[.int .i64 id.x, .int .i64 id.y, .int .i64 id.z, .int .i64 kind, .string label, .slice Ah nh ch, .slice Aw nw cw, .slice Ak nk ck] 27)).alloc (.cells #[.int .i64 0, .int .i64 0, .int .i64 0, .int .i64 0, .string ⟨#[]⟩, .slice none 0 0, .slice none 0 0, .slice none 0 0] 27)))).1
        rw [show (w.alloc (.cells #[.int .i64 id.x, .int .i64 id.y, .int .i64 id.z, .int .i64 kind, .string label, .slice Ah nh ch, .slice Aw nw cw, .slice Ak nk ck] 27)).heap.size = w.heap.size + 1 by simp] at hz
        exact (hz.below (by rw [HN2.out]; exact hb)).cells
      have HUo : Hid (∀ W, Below (w.heap.size + 1) (w.alloc (.cells #[.int .i64 id.x, .int .i64 id.y, .int .i64 id.z, .int .i64 kind, .string label, .slice Ah nh ch, .slice Aw nw cw, .slice Ak nk ck] 27)) W → Below w.heap.size w W) := Lib.hid fun W h => (alloc_below w (.cells #[.int .i64 id.x, .int .i64 id.y, .int .i64 id.z, .int .i64 kind, .string label, .slice Ah nh ch, .slice Aw nw cw, .slice Ak nk ck] 27)).trans (h.mono (Nat.le_succ _))
      have HBs : Hid (∀ W, Below ((w.alloc (.cells #[.int .i64 id.x, .int .i64 id.y, .int .i64 id.z, .int .i64 kind, .string label, .slice Ah nh ch, .slice Aw nw cw, .slice Ak nk ck] 27)).alloc (.cells #[.int .i64 0, .int .i64 0, .int .i64 0, .int .i64 0, .string ⟨#[]⟩, .slice none 0 0, .slice none 0 0, .slice none 0 0] 27)).heap.size ((w.alloc (.cells #[.int .i64 id.x, .int .i64 id.y, .int .i64 id.z, .int .i64 kind, .string label, .slice Ah nh ch, .slice Aw nw cw, .slice Ak nk ck] 27)).alloc (.cells #[.int .i64 0, .int .i64 0, .int .i64 0, .int .i64 0, .string ⟨#[]⟩, .slice none 0 0, .slice none 0 0, .slice none 0 0] 27)) W → Below (w.heap.size + 1) (w.alloc (.cells #[.int .i64 id.x, .int .i64 id.y, .int .i64 id.z, .int .i64 kind, .string label, .slice Ah nh ch, .slice Aw nw cw, .slice Ak nk ck] 27)) W) := Lib.hid fun W h => HZ0.out.trans (h.mono (by simp))
      have HR := Lib.hid hR
      have hnk := hR.2.1
      have hck := hR.2.2.1
      have HKl := Lib.hid hR.1
      have HOk := Lib.hid hok.2
      have hn9 : nk ≤ 1000000000 := by
        have h1 : kids.length ≤ 1000000000 := hkl
        have := hR.1
        omega
      have HBx := Lib.hid (Box8.new w 27 (.int .i64 id.x) (.int .i64 id.y) (.int .i64 id.z) (.int .i64 kind) (.string label) (.slice Ah nh ch) (.slice Aw nw cw) (.slice Ak nk ck))
      have HI : Hid (∀ (k : Nat) (x : Ut), kids[k]? = some x → ∀ (v : Value) (W : World), UtV W x v → Calls Tryd.prog 42 #[v] W fun e w' => (∃ v', e = .returned v' ∧ UtVQ (Fresh W.heap.size w') w' x.strip v') ∧ Below W.heap.size W w') := Lib.hid fun k x hx v W hVx => by
        have h1 : x.count < (Ut.mk id kind label head words kids).count := kid_lt hx
        rw [count_mk] at h1
        exact ih x v W (by omega) ⟨by have := hM.1; rw [count_mk] at this; omega, fun y hy => hM.2 y (kid_all hx y hy)⟩ hVx
      obtain ⟨i0, hi, hz0, hz1, hz2⟩ := info_parts info_unit
      clear hR hV hV0 ih hN hM hok hWh hWw hEs hkl hs1 hs2 hs3
      go_enter Tryd.func42, Tryd.ntmps42
      go_upto_region 1 with fail
      go_cut [3] from 5 to 15 (fun t wx => Mid (w.heap.size + 2) ((w.alloc (.cells #[.int .i64 id.x, .int .i64 id.y, .int .i64 id.z, .int .i64 kind, .string label, .slice Ah nh ch, .slice Aw nw cw, .slice Ak nk ck] 27)).alloc (.cells #[.int .i64 0, .int .i64 0, .int .i64 0, .int .i64 0, .string ⟨#[]⟩, .slice none 0 0, .slice none 0 0, .slice none 0 0] 27)) wx t kind label nh nw (bareW head) (bareW words))
      case first =>
        go_region_held3 (fun w' => w'.cell? ⟨w.heap.size, 3, none⟩ = some (.int .i64 kind) ∧ w'.cell? ⟨w.heap.size, 4, none⟩ = some (.string label) ∧ w'.cell? ⟨w.heap.size, 5, none⟩ = some (.slice Ah nh ch) ∧ w'.cell? ⟨w.heap.size, 6, none⟩ = some (.slice Aw nw cw) ∧ w'.cell? ⟨w.heap.size, 7, none⟩ = some (.slice Ak nk ck))
          (with_reducible (first | exact HS.out _ (set8_below _ hg3 _ _ _ _ _ _ _ _ hy3) | exact HS.out _ (HAl.out _ _ hy3) | exact HS.out _ hy3 | exact HS.out _ (HAl.out _ _ hy2) | exact HS.out _ hy2 | exact HS.out _ HZ0.out.drew | exact HS.out _ (HAl.out _ _ HZ0.out).drew))
          (first
            | (go_at_call 90; with_reducible refine (HWh.out _ ?_).mono ?_; (with_reducible (first | exact HB2.out.drew | exact (HUo.out _ (HAl.out _ _ HZ0.out)).drew));
               rintro e w2 ⟨⟨A2, c2, rfl, q2⟩, hb2⟩;
               (first | (with_reducible have zz2q := HNew.out _ (undrew hb2); clear hb2; obtain ⟨zz2, hb2⟩ := zz2q; have hy2 := HBs.out _ hb2) | (with_reducible have hy2 := HBs.out _ (undrew hb2))))
            | (go_at_call 90; with_reducible refine (HWw.out _ ?_).mono ?_; (with_reducible (first | exact HUo.out _ hy2 | exact HUo.out _ (HAl.out _ _ hy2)));
               rintro e w3 ⟨⟨A3, c3, rfl, q3⟩, hb3⟩;
               (first | (with_reducible have zz3q := Zbox.new hb3; clear hb3; obtain ⟨zz3, hb3⟩ := zz3q) | (have zz3 := zz2.below hb3) | skip);
               have hy3 := hy2.trans (hb3.mono (Nat.le_trans (Nat.le_of_eq HEs.out.symm) hy2.size));
               (first | (have hg3 : w.heap.size + 1 ≤ w.heap.size + 1 + 1 := Nat.le_succ _; have zc := Zbox.cells (g := w.heap.size + 1 + 1) zz3; obtain ⟨t0, t1, t2, t3, t4, t5, t6, t7, f0, f1, f2, f3, f4, f5, f6, f7⟩ := zc) | (have hg3 : w.heap.size + 1 ≤ w2.heap.size := (Nat.le_trans (Nat.le_of_eq HEs.out.symm) hy2.size); obtain ⟨t0, t1, t2, t3, t4, t5, t6, t7, f0, f1, f2, f3, f4, f5, f6, f7⟩ := zz3.cells) | skip)))
        · have hb2' := undrew hb2
          rw [HN2.out] at hb2'
          go_wp2_with fail
          go_meet
          case rel => exact mid_alloc hb2' hb3 (by have h1 := hb2'.size; rw [HN2.out] at h1; exact h1) q2 (fun b hb => ⟨by have h1 : ((w.alloc (.cells #[.int .i64 id.x, .int .i64 id.y, .int .i64 id.z, .int .i64 kind, .string label, .slice Ah nh ch, .slice Aw nw cw, .slice Ak nk ck] 27)).alloc (.cells #[.int .i64 0, .int .i64 0, .int .i64 0, .int .i64 0, .string ⟨#[]⟩, .slice none 0 0, .slice none 0 0, .slice none 0 0] 27)).heap.size ≤ b := hb.1; rw [HN2.out] at h1; exact h1, hb.2⟩) q3 (fun b hb => ⟨by have h1 := hb2'.size; rw [HN2.out] at h1; have h2 : w2.heap.size ≤ b := hb.1; omega, hb.2⟩)
        · have hb2' := undrew hb2
          rw [HN2.out] at hb2'
          have h1 := hb2'.size
          rw [HN2.out] at h1
          go_wp2_with fail
          go_meet
          case rel => exact mid_set h1 zz3 hb2' hb3 h1 q2 (fun b hb => by
              have h2 : ((w.alloc (.cells #[.int .i64 id.x, .int .i64 id.y, .int .i64 id.z, .int .i64 kind, .string label, .slice Ah nh ch, .slice Aw nw cw, .slice Ak nk ck] 27)).alloc (.cells #[.int .i64 0, .int .i64 0, .int .i64 0, .int .i64 0, .string ⟨#[]⟩, .slice none 0 0, .slice none 0 0, .slice none 0 0] 27)).heap.size ≤ b := hb.1
              rw [HN2.out] at h2
              have h3 := hb.2
              exact ⟨h2, h3, by omega⟩) q3 (fun b hb => by
              have h2 : (w2.alloc (.cells #[.int .i64 0, .int .i64 0, .int .i64 0, .int .i64 0, .string ⟨#[]⟩, .slice none 0 0, .slice none 0 0, .slice none 0 0] 27)).heap.size ≤ b := hb.1
              rw [show (w2.alloc (.cells #[.int .i64 0, .int .i64 0, .int .i64 0, .int .i64 0, .string ⟨#[]⟩, .slice none 0 0, .slice none 0 0, .slice none 0 0] 27)).heap.size = w2.heap.size + 1 by simp] at h2
              exact ⟨by omega, hb.2, by omega⟩)
        · rw [HN2.out] at hb2
          have h1 := hb2.size
          rw [HN2.out] at h1
          have h0 := zz2.1
          go_wp2_with fail
          go_meet
          case rel => exact mid_set (Nat.le_refl _) zz3 hb2 hb3 h1 q2 (fun b hb => by
              have h2 : (((w.alloc (.cells #[.int .i64 id.x, .int .i64 id.y, .int .i64 id.z, .int .i64 kind, .string label, .slice Ah nh ch, .slice Aw nw cw, .slice Ak nk ck] 27)).alloc (.cells #[.int .i64 0, .int .i64 0, .int .i64 0, .int .i64 0, .string ⟨#[]⟩, .slice none 0 0, .slice none 0 0, .slice none 0 0] 27)).alloc (.cells #[.int .i64 0, .int .i64 0, .int .i64 0, .int .i64 0, .string ⟨#[]⟩, .slice none 0 0, .slice none 0 0, .slice none 0 0] 27)).heap.size ≤ b := hb.1
              rw [HN3.out] at h2
              exact ⟨by omega, hb.2, by omega⟩) q3 (fun b hb => by
              have h2 : w2.heap.size ≤ b := hb.1
              exact ⟨by omega, hb.2, by omega⟩)
      case rest =>
        obtain ⟨g, A2, A3, c2, c3, rfl, hg2, hgs, hbx, hfr, q2, q3, hbc⟩ := hcut
        have HFr := Lib.hid hfr
        have HQ2 := Lib.hid q2
        have HQ3 := Lib.hid q3
        have HBc := Lib.hid hbc
        have HBxc := Lib.hid hbx
        clear hfr q2 q3 hbc hbx
        go_wp2_with fail
        go_loopw [4] (fun i wr => ∃ (k cc : Nat) (Av : Option Addr) (us : List (Ut × List Value)), k ≤ nk ∧ i = .int .i64 k ∧ us.map (·.1) = (kids.take k).map Ut.strip ∧ wr.ownsRow wc.heap.size 27 8 (.slice Av k cc) k (us.flatMap (·.2)) ∧ Units wc.heap.size wr (Value.slice Av k cc).ownBlock us ∧ Kept (w.heap.size + 2) wc.heap.size g ((w.alloc (.cells #[.int .i64 id.x, .int .i64 id.y, .int .i64 id.z, .int .i64 kind, .string label, .slice Ah nh ch, .slice Aw nw cw, .slice Ak nk ck] 27)).alloc (.cells #[.int .i64 0, .int .i64 0, .int .i64 0, .int .i64 0, .string ⟨#[]⟩, .slice none 0 0, .slice none 0 0, .slice none 0 0] 27)) wc wr kind label (.slice A2 nh c2) (.slice A3 nw c3) (.slice Av k cc)) (fun i _ => nk - (intOf i).toNat)
        case atStart => exact ⟨0, 0, none, [], Nat.zero_le _, rfl, rfl, World.ownsRow_nil _ _ _ _, (fun p hp => absurd hp (by simp)), HBc.out, Nat.le_refl _, fun _ _ _ => rfl, HBxc.out, HFr.out⟩
        case round =>
          rename World => wr
          obtain ⟨k, cc, Av, us, hk, rfl, hus, hown, hun, hkept⟩ := hrel
          have HUs := Lib.hid hus
          have HO := Lib.hid hown
          have HU := Lib.hid hun
          have HK := Lib.hid hkept
          have HB1 : Hid (Below (w.heap.size + 1) (w.alloc (.cells #[.int .i64 id.x, .int .i64 id.y, .int .i64 id.z, .int .i64 kind, .string label, .slice Ah nh ch, .slice Aw nw cw, .slice Ak nk ck] 27)) wr) := Lib.hid (HZ0.out.trans (hkept.1.mono (Nat.le_succ _)))
          have hbw := HUo.out _ HB1.out
          obtain ⟨p0, p1, p2, p3, p4, p5, p6, p7⟩ := HBx.out.below HB1.out (Nat.lt_succ_self _)
          obtain ⟨b0, b1, b2, b3, b4, b5, b6, b7⟩ := hkept.2.2.2.1
          clear hus hown hun hkept
          by_cases hlt : k < nk
          · obtain ⟨b, off, u, i1, i2, i3, kd, lb, Bh, Bw, Bk, mh, dh, mw, dw, mk, dk, rfl, hblt, hu, hUV, c0, c1, c2, c3, c4, c5, c6, c7⟩ := HR.out.at_ hbw hlt
            have HS : Hid (∀ W, Below (w.heap.size + 2) wr W → W.cell? ⟨w.heap.size, 7, none⟩ = some (.slice (some ⟨b, off, none⟩) nk ck) ∧ W.cell? ⟨b, off + k * 8, none⟩ = some (.int .i64 i1) ∧ W.cell? ⟨b, off + k * 8 + 1, none⟩ = some (.int .i64 i2) ∧ W.cell? ⟨b, off + k * 8 + 2, none⟩ = some (.int .i64 i3) ∧ W.cell? ⟨b, off + k * 8 + 3, none⟩ = some (.int .i64 kd) ∧ W.cell? ⟨b, off + k * 8 + 4, none⟩ = some (.string lb) ∧ W.cell? ⟨b, off + k * 8 + 5, none⟩ = some (.slice Bh mh dh) ∧ W.cell? ⟨b, off + k * 8 + 6, none⟩ = some (.slice Bw mw dw) ∧ W.cell? ⟨b, off + k * 8 + 7, none⟩ = some (.slice Bk mk dk)) := Lib.hid fun W hb => by
              have g1 : b < w.heap.size + 2 := by omega
              have g0 : w.heap.size < w.heap.size + 2 := by omega
              exact ⟨(hb.cell (p := ⟨w.heap.size, 7, none⟩) g0).trans p7,
                (hb.cell (p := ⟨b, off + k * 8, none⟩) g1).trans c0, (hb.cell (p := ⟨b, off + k * 8 + 1, none⟩) g1).trans c1, (hb.cell (p := ⟨b, off + k * 8 + 2, none⟩) g1).trans c2, (hb.cell (p := ⟨b, off + k * 8 + 3, none⟩) g1).trans c3, (hb.cell (p := ⟨b, off + k * 8 + 4, none⟩) g1).trans c4, (hb.cell (p := ⟨b, off + k * 8 + 5, none⟩) g1).trans c5, (hb.cell (p := ⟨b, off + k * 8 + 6, none⟩) g1).trans c6, (hb.cell (p := ⟨b, off + k * 8 + 7, none⟩) g1).trans c7⟩
            have HC : Hid (∀ W, Below wr.heap.size wr W → Calls Tryd.prog 42 #[.agg #[.int .i64 i1, .int .i64 i2, .int .i64 i3, .int .i64 kd, .string lb, .slice Bh mh dh, .slice Bw mw dw, .slice Bk mk dk]] W fun e w' => (∃ v', e = .returned v' ∧ UtVQ (Fresh W.heap.size w') w' u.strip v') ∧ Below W.heap.size W w') := Lib.hid fun W hb => HI.out k u hu _ W (hUV.below hb)
            have HT : Hid ((kids.take (k + 1)).map Ut.strip = (kids.take k).map Ut.strip ++ [u.strip]) := Lib.hid (by rw [take_one hu, List.map_append]; rfl)
            have HG7 : Hid (∀ W, Below wc.heap.size wr W → W.cell? ⟨g, 7, none⟩ = some (.slice Av k cc) ∧ W.frozen? ⟨g, 7, none⟩ = false) := Lib.hid fun W hb => ⟨(hb.cell (p := ⟨g, 7, none⟩) hgs).trans b7, (hb.frozen (p := ⟨g, 7, none⟩) hgs).trans (HK.out.2.2.2.2 7)⟩
            have HM1 : Hid (wc.heap.size ≤ wr.heap.size) := Lib.hid HK.out.2.1
            have HM2 : Hid (w.heap.size + 2 ≤ wc.heap.size) := Lib.hid (by omega)
            have HF7 : wr.frozen? ⟨g, 7, none⟩ = false := HK.out.2.2.2.2 7
            have HOa : Hid (∀ W, Below wr.heap.size wr W → W.ownsRow wc.heap.size 27 8 (.slice Av k cc) k (us.flatMap (·.2)) ∧ wc.heap.size ≤ W.heap.size) := Lib.hid fun W hb => ⟨own_below HO.out hb, Nat.le_trans HM1.out hb.size⟩
            clear hu hUV p0 p1 p2 p3 p4 p5 p6 b0 b1 b2 b3 b4 b5 b6 hbw
            go_wp2_with fail
            go_region_law
              (first
                | (refine step_append_lies _ (by rfl) _ _ 25 (by rfl) wc.heap.size 27 i0 (.agg #[.int .i64 0, .int .i64 0, .int .i64 0, .int .i64 0, .string ⟨#[]⟩, .slice none 0 0, .slice none 0 0, .slice none 0 0]) 8 120 Tryd.underlying25 hi hz0 hz1 hz2 rfl (by decide) _ _ _ (by rfl) (HOa.out _ yB).1 ⟨w2.heap.size, 0, none⟩ 1 1 [.int .i64 o1, .int .i64 o2, .int .i64 o3, .int .i64 ko, .string lo, .slice Oh oh ph, .slice Ow ow pw, .slice Ok ok pk] (by rfl) (by rfl) (fun j u hj => new_row _ _ rfl [.int .i64 o1, .int .i64 o2, .int .i64 o3, .int .i64 ko, .string lo, .slice Oh oh ph, .slice Ow ow pw, .slice Ok ok pk] _ j u hj) (by intro u hu; simp at hu; rcases hu with rfl | rfl | rfl | rfl | rfl | rfl | rfl | rfl <;> rfl) (by decide) (by unfold maxLen; omega) (by omega) (HOa.out _ yB).2 (w2.heap.size + 1) (by simp) ?_;
                   intro gg cap w3 hown3 hgrow hat hlt3;
                   have z3 := grown_below (HOa.out _ yB).1 (yB.mono HM1.out) (HOa.out _ yB).2 hgrow;
                   have HO3 := Lib.hid hown3; have HG3 := Lib.hid hgrow; have HAt := Lib.hid hat; clear hown3 hgrow hat;
                   have y3 := z3.mono HM2.out;
                   obtain ⟨g73, f73⟩ := HG7.out _ z3)
                | (go_wp2_with
                  (go_at_call 42; with_reducible refine (HC.out _ ?_).mono ?_; (with_reducible exact (Below.refl _ _).drew);
                   rintro e w2 ⟨⟨v2, rfl, vs, rfl, hq⟩, hb2⟩; obtain ⟨o1, o2, o3, ko, lo, Oh, Ow, Ok, oh, ph, ow, pw, ok, pk, rfl⟩ := hq.shape;
                   have HQ := Lib.hid hq; clear hq;
                   have y0 := undrew hb2; have HY := alloc_below w2 (.cells #[.int .i64 o1, .int .i64 o2, .int .i64 o3, .int .i64 ko, .string lo, .slice Oh oh ph, .slice Ow ow pw, .slice Ok ok pk] 27);
                   have yB := y0.trans (HY.mono y0.size);
                   have y2 := y0.mono (Nat.le_trans HM2.out HM1.out);
                   have yA := yB.mono (Nat.le_trans HM2.out HM1.out);
                   obtain ⟨g72, f72⟩ := HG7.out _ (y0.mono HM1.out);
                   obtain ⟨g7a, f7a⟩ := HG7.out _ (yB.mono HM1.out))))
            all_goals
              have hat' : (Value.slice (some ⟨gg, 0, none⟩) (k + 1) cap).ownBlock = (Value.slice Av k cc).ownBlock ∨ (Value.slice (some ⟨gg, 0, none⟩) (k + 1) cap).ownBlock = some (w2.alloc (.cells #[.int .i64 o1, .int .i64 o2, .int .i64 o3, .int .i64 ko, .string lo, .slice Oh oh ph, .slice Ow ow pw, .slice Ok ok pk] 27)).heap.size := by
                rw [show (w2.alloc (.cells #[.int .i64 o1, .int .i64 o2, .int .i64 o3, .int .i64 ko, .string lo, .slice Oh oh ph, .slice Ow ow pw, .slice Ok ok pk] 27)).heap.size = w2.heap.size + 1 by simp]
                rcases HAt.out with h | h
                · exact Or.inl h.symm
                · exact Or.inr (by rw [h]; rfl)
              have HU' := Lib.hid (Units.set (s := .slice (some ⟨gg, 0, none⟩) (k + 1) cap) (HU.out.step HO.out.lt (Below.refl _ _).drew hb2 HY HG3.out hat' HM1.out HQ.out rfl) hgs)
              have HK' := Lib.hid (HK.out.set z3 hg2 hgs HM2.out (.slice (some ⟨gg, 0, none⟩) (k + 1) cap))
              have HO' := Lib.hid (own_set (g := g) (s := .slice (some ⟨gg, 0, none⟩) (k + 1) cap) HO3.out hgs)
              clear hat' y0 yB y2 yA y3 z3 g72 f72 g7a f7a g73 f73 hb2 HY
              go_wp2_with fail
              go_roundw
              case rel => exact ⟨k + 1, cap, _, us ++ [(u.strip, [.int .i64 o1, .int .i64 o2, .int .i64 o3, .int .i64 ko, .string lo, .slice Oh oh ph, .slice Ow ow pw, .slice Ok ok pk])], by omega, by go_num, by rw [List.map_append, HUs.out, HT.out]; rfl, by rw [List.flatMap_append]; exact HO'.out, HU'.out, HK'.out⟩
              case measure => simp [intOf]; omega
          · obtain rfl : nk = k := by omega
            have HT : Hid (kids.take nk = kids) := Lib.hid (List.take_of_length_le (by rw [← HKl.out]; exact Nat.le_refl _))
            have hlen : us.length = nk := by
              have h1 := congrArg List.length HUs.out
              rw [HT.out, List.length_map, List.length_map] at h1
              have := HKl.out
              omega
            have HRo := Lib.hid (row_own (Q := fun b => wc.heap.size ≤ b ∧ b < wr.heap.size) hlen HO.out (fun b hb => HO.out.lt b hb) (fun p hp => ⟨UtQ.imp (fun b hb => ⟨hb.1, hb.2.1⟩) (fun _ _ => rfl) _ _ (HU.out p hp).1, (HU.out p hp).2⟩))
            obtain ⟨t0, t1, t2, t3, t4, t5, t6, t7, f0, f1, f2, f3, f4, f5, f6, f7⟩ := HZr.out wr HK.out.1
            have hby := set8_box (.int .i64 0) (.int .i64 0) (.int .i64 0) (.int .i64 kind) (.string label) (.slice A2 nh c2) (.slice A3 nw c3) (.slice Av nk cc) (⟨t0, t1, t2, t3, t4, t5, t6, t7⟩ : Box8 wr (w.heap.size + 1) _ _ _ _ _ _ _ _)
            have HBy := Lib.hid hby
            have HSe := Lib.hid (set8_size wr (w.heap.size + 1) (.int .i64 0) (.int .i64 0) (.int .i64 0) (.int .i64 kind) (.string label) (.slice A2 nh c2) (.slice A3 nw c3) (.slice Av nk cc))
            have HOt := Lib.hid (set8_other wr (w.heap.size + 1) (.int .i64 0) (.int .i64 0) (.int .i64 0) (.int .i64 kind) (.string label) (.slice A2 nh c2) (.slice A3 nw c3) (.slice Av nk cc))
            have HBf := Lib.hid (set8_below (w.heap.size + 1) (Nat.le_refl _) (.int .i64 0) (.int .i64 0) (.int .i64 0) (.int .i64 kind) (.string label) (.slice A2 nh c2) (.slice A3 nw c3) (.slice Av nk cc) HB1.out)
            clear hby hlen p0 p1 p2 p3 p4 p5 p6
            go_wp2_with fail
            refine bodyPost_ret (res8 rfl _ _ (w.heap.size + 1) _ _ _ _ _ _ _ _ rfl HBy.out) rfl ?_
            rw [show (Ut.mk id kind label head words kids).strip = .mk .zero kind label (bareW head) (bareW words) (Ut.strips kids) from strip_mk _ _ _ _ _ _]
            have hm1 := HK.out.2.1
            have hm3 := HK.out.2.2.1
            have hRow : RowQ (fun b => wc.heap.size ≤ b ∧ b < wr.heap.size) wr Av nk cc (Ut.strips kids) := by
              have h := HRo.out
              rw [HUs.out, HT.out, ← strips_map] at h
              exact h
            refine ⟨⟨_, rfl, UtVQ.mk_ (id := .zero) ⟨zero_ok, HOk.out⟩ (HQ2.out.later fun b hb => ?_) (HQ3.out.later fun b hb => ?_) (hRow.later fun b hb => ?_)⟩, HUo.out _ HBf.out⟩
            · obtain ⟨a1, a2, a3⟩ := hb
              exact ⟨⟨by omega, by rw [HSe.out]; omega⟩, by rw [HOt.out b (by omega)]; exact hm3 b a2 a3⟩
            · obtain ⟨a1, a2, a3⟩ := hb
              exact ⟨⟨by omega, by rw [HSe.out]; omega⟩, by rw [HOt.out b (by omega)]; exact hm3 b a2 a3⟩
            · obtain ⟨a1, a2⟩ := hb
              exact ⟨⟨by omega, by rw [HSe.out]; omega⟩, HOt.out b (by omega)⟩
end Go.Proofs.YtcacnelhppakoaaDoor
