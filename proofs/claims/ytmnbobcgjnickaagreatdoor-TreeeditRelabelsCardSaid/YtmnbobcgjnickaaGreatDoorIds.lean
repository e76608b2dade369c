/-
  The contract of IDs: a test that writes, run over a tree.
-/
import Derived.Test.YtmnbobcgjnickaaGreatDoorFlt
namespace Go.Proofs.YtmnbobcgjnickaaGreatDoor
open Go.RowKit (wrap32 wrap64 intOf Hid Below)
open Lab Lcs
def IdSt (w0 : World) (g : Nat) (W : World) (L : List Trip) (A : Option Addr) (n c : Nat) : Prop :=
 Below w0.heap.size w0 W ∧ w0.heap.size ≤ g ∧ g < W.heap.size ∧ W.cell? ⟨g, 0, none⟩ = some (.slice A n c) ∧ W.frozen? ⟨g, 0, none⟩ = false ∧ n = L.length ∧ W.ownsRow w0.heap.size 23 3 (.slice A n c) n (fl idc L) ∧ (Value.slice A n c).ownBlock ≠ some g
def IdK (g : Nat) (r : Option Nat) (W w' : World) : Prop := W.heap.size ≤ w'.heap.size ∧ ∀ k, k < W.heap.size → k ≠ g → some k ≠ r → w'.heap[k]? = W.heap[k]?
theorem IdK.refl (g : Nat) (r : Option Nat) (W : World) : IdK g r W W := ⟨Nat.le_refl _, fun _ _ _ _ => rfl⟩
def IdR (r r' : Option Nat) (W : World) : Prop := r' = r ∨ ∃ j, r' = some j ∧ W.heap.size ≤ j
theorem IdK.trans {g : Nat} {r r' : Option Nat} {a b c : World} (h : IdK g r a b) (hr : IdR r r' a) (k : IdK g r' b c) : IdK g r a c := by
 refine ⟨Nat.le_trans h.1 k.1, fun i hi hg hne => ?_⟩
 refine (k.2 i (Nat.lt_of_lt_of_le hi h.1) hg ?_).trans (h.2 i hi hg hne)
 rcases hr with rfl | ⟨j, rfl, hj⟩
 · exact hne
 · intro e
   injection e with e
   omega
theorem IdR.trans {r r' r'' : Option Nat} {a b : World} (h : IdR r r' a) (k : IdR r' r'' b) (hz : a.heap.size ≤ b.heap.size) : IdR r r'' a := by
 rcases k with rfl | ⟨j, rfl, hj⟩
 · exact h
 · exact Or.inr ⟨j, rfl, by omega⟩
theorem IdK.alloc (g : Nat) (r : Option Nat) (W : World) (o : Obj) : IdK g r W (W.alloc o) := ⟨Nat.le_of_lt (alloc_lt W o), fun k hk _ _ => (alloc_below W o).block k hk⟩
theorem IdSt.alloc {w0 : World} {g : Nat} {W : World} {L : List Trip} {A : Option Addr} {n c : Nat} (h : IdSt w0 g W L A n c) (o : Obj) : IdSt w0 g (W.alloc o) L A n c := by
 obtain ⟨h1, h2, h3, h4, h5, h6, h7, h8⟩ := h
 have hb := alloc_below W o
 refine ⟨h1.trans (hb.mono h1.size), h2, Nat.lt_trans h3 (alloc_lt W o), (hb.cell (p := ⟨g, 0, none⟩) h3).trans h4, (hb.frozen (p := ⟨g, 0, none⟩) h3).trans h5, h6, own_below h7 hb, h8⟩
theorem IdSt.slot {w0 : World} {g : Nat} {W : World} {L : List Trip} {A : Option Addr} {n c : Nat} (h : IdSt w0 g W L A n c) : ∀ k, (Value.slice A n c).ownBlock = some k → w0.heap.size ≤ k ∧ k < W.heap.size := h.2.2.2.2.2.2.1.lt
set_option maxHeartbeats 4000000 in
set_option maxRecDepth 100000 in
theorem idclo_any (w0 : World) (g : Nat) (u : Ut) (v : Value) (W : World) (L : List Trip) (A : Option Addr) (n c : Nat) (hV : UtV w0 u v) (hS : IdSt w0 g W L A n c) (hn : n ≤ 1000000000) :
   Calls Tryz.prog 87 #[v, .pointer (some ⟨g, 0, none⟩)] W fun e w' => e = .returned (.bool true) ∧ ∃ A' c', IdSt w0 g w' (L ++ [u.id]) A' (n + 1) c' ∧ IdK g (Value.slice A n c).ownBlock W w' ∧ IdR (Value.slice A n c).ownBlock (Value.slice A' (n + 1) c').ownBlock W := by
 have hV' := hV.below hS.1
 cases u with
 | mk id kind label head words kids =>
   have hV := hV'
   obtain ⟨Ah, Aw, Ak, nh, ch, nw, cw, nk, ck, rfl, hok, hWh, hWw, hR⟩ := hV.open_
   have HS := Lib.hid hS
   obtain ⟨i0, hi, hz0, hz1, hz2⟩ := info_parts info_id
   obtain ⟨n0, n1, n2, n3, n4, n5, n6, n7⟩ := Box8.new W 27 (.int .i64 id.x) (.int .i64 id.y) (.int .i64 id.z) (.int .i64 kind) (.string label) (.slice Ah nh ch) (.slice Aw nw cw) (.slice Ak nk ck)
   have hSa := hS.alloc (.cells #[.int .i64 id.x, .int .i64 id.y, .int .i64 id.z, .int .i64 kind, .string label, .slice Ah nh ch, .slice Aw nw cw, .slice Ak nk ck] 27)
   obtain ⟨s1, s2, s3, s4, s5, s6, s7, s8⟩ := hSa
   have HSa := Lib.hid s7
   have HS1 := Lib.hid s1
   have HB2 := Lib.hid (below2 W (.cells #[.int .i64 id.x, .int .i64 id.y, .int .i64 id.z, .int .i64 kind, .string label, .slice Ah nh ch, .slice Aw nw cw, .slice Ak nk ck] 27) (.cells #[.int .i64 id.x, .int .i64 id.y, .int .i64 id.z] 23))
   have HZ := Lib.hid hS.1.size
   have HG := Lib.hid hS.2.1
   have HGW := Lib.hid hS.2.2.1
   have HO8 := Lib.hid s8
   clear hR hV hV' hok hWh hWw hS s1 s2 s3 s7 s8 s6
   go_enter Tryz.func87, Tryz.ntmps87
   go_wp2_with (at_builtin; refine wpList_append_own_at _ rfl _ _ 56 rfl w0.heap.size 23 i0 (.agg #[.int .i64 0, .int .i64 0, .int .i64 0]) 3 24 Tryz.underlying56 hi hz0 hz1 hz2 rfl (by decide) _ _ _ rfl (own_below HS.out.2.2.2.2.2.2.1 HB2.out) ⟨W.heap.size + 1, 0, none⟩ 1 1 [.int .i64 id.x, .int .i64 id.y, .int .i64 id.z] rfl rfl ?c1 ?c2 ?c3 ?c4 ?c5 ?_)
   case c1 => exact fun j u hj => new_row _ _ (by simp) [.int .i64 id.x, .int .i64 id.y, .int .i64 id.z] _ j u hj
   case c2 => intro u hu; simp at hu; rcases hu with rfl | rfl | rfl <;> rfl
   case c3 => unfold maxLen; omega
   case c4 => omega
   case c5 => have := HZ.out; simp; omega
   intro v' w3 hown' hgrow _ hat
   obtain ⟨A', c', rfl, _⟩ := own_slice hown'
   have hgw : g < ((W.alloc (.cells #[.int .i64 id.x, .int .i64 id.y, .int .i64 id.z, .int .i64 kind, .string label, .slice Ah nh ch, .slice Aw nw cw, .slice Ak nk ck] 27)).alloc (.cells #[.int .i64 id.x, .int .i64 id.y, .int .i64 id.z] 23)).heap.size := by have := HGW.out; simp; omega
   have m0 := (hgrow.cell (a := ⟨g, 0, none⟩) ((HB2.out.cell (p := ⟨g, 0, none⟩) HGW.out).trans HS.out.2.2.2.1) (by intro h; exact HO8.out h.symm))
   have m1 : w3.frozen? ⟨g, 0, none⟩ = false := by
     rw [World.frozen?_of_block (w := ((W.alloc (.cells #[.int .i64 id.x, .int .i64 id.y, .int .i64 id.z, .int .i64 kind, .string label, .slice Ah nh ch, .slice Aw nw cw, .slice Ak nk ck] 27)).alloc (.cells #[.int .i64 id.x, .int .i64 id.y, .int .i64 id.z] 23))) (hgrow.block g hgw (fun h => HO8.out h.symm))]
     exact (HB2.out.frozen (p := ⟨g, 0, none⟩) HGW.out).trans HS.out.2.2.2.2.1
   have HO' := Lib.hid hown'
   have HGr := Lib.hid hgrow
   have HAt := Lib.hid hat
   have HM0 := Lib.hid m0
   have HM1 := Lib.hid m1
   clear hown' hgrow hat
   go_wp2
   go_ret
   have hob : (Value.slice A' (n + 1) c').ownBlock ≠ some g := by
     rcases HAt.out with h | h
     · rw [h]; exact HO8.out
     · rw [h]
       intro e
       injection e with e
       have := HGW.out
       omega
   have hsz : W.heap.size ≤ w3.heap.size := Nat.le_trans HB2.out.size HGr.out.size
   refine ⟨rfl, A', c', ⟨?_, HG.out, ?_, World.cell?_setCell_same _ _ _ HM0.out, ?_, ?_, ?_, hob⟩, ⟨?_, ?_⟩, ?_⟩
   · refine Below.setCell ?_ HG.out _
     refine below_own (own_below HS.out.2.2.2.2.2.2.1 HB2.out) ?_ ?_ HGr.out
     · exact HS.out.1.trans (HB2.out.mono HZ.out)
     · exact Nat.le_trans HZ.out HB2.out.size
   · rw [World.size_setCell]
     have := HGW.out
     omega
   · rw [World.frozen?_setCell]; exact HM1.out
   · rw [List.length_append, ← HS.out.2.2.2.2.2.1]; rfl
   · rw [fl_app, fl_one]
     exact ownsRow_setCell_other HO'.out hob _
   · rw [World.size_setCell]; exact hsz
   · intro k hk hkg hne
     rw [Below.heap_setCell _ _ _ _ hkg, HGr.out.block k (Nat.lt_of_lt_of_le hk HB2.out.size) hne]
     exact HB2.out.block k hk
   · rcases HAt.out with h | h
     · exact Or.inl h
     · exact Or.inr ⟨_, h, by omega⟩
end Go.Proofs.YtmnbobcgjnickaaGreatDoor
