/-
  How Diff compares IDs: the library's Compare and Or, and the closure over them (three numbers each); whatever the world, draws and blocks behind it.
-/
import Derived.Shelf.SlSortCmp.WholeK
import Derived.StillTailTactics
import Derived.Handy
import Derived.WalkMore
import Derived.Lib.Hide
import Derived.WalkLawsBesides
import Derived.WalkSpells
import Derived.Deep.Draws
import Derived.Deep.RegionHeld3
import Derived.Test.YtopohipcpomecaaDoorProg
namespace Go.Proofs.YtopohipcpomecaaDoor
open Go.RowKit (wrap32 wrap64 intOf Hid Below)
open Go.Sort (grow alloc_eq_grow grow_grow cell?_grow)
theorem ret_int' {x y : Int} (h : x = y) : Ending.returned (.int .i64 x) = .returned (.int .i64 y) := by rw [h]
theorem cmp_any (a b : Int) (w : World) :
   Calls Tryd.prog 40 #[.int .i64 a, .int .i64 b] w fun e w' => e = .returned (.int .i64 (Lib.compareInt a b)) ∧ w' = w := by
 rcases Int.lt_trichotomy a b with h | h | h
 · have hr : Lib.compareInt a b = -1 := by simp [Lib.compareInt, h]
   have HR := Lib.hid hr
   clear hr
   go_enter Tryd.func40, Tryd.ntmps40
   go_wp2
   go_ret
   exact ⟨ret_int' HR.out.symm, rfl⟩
 · have hr : Lib.compareInt a b = 0 := by subst h; simp [Lib.compareInt]
   have HR := Lib.hid hr
   subst h
   clear hr
   go_enter Tryd.func40, Tryd.ntmps40
   go_wp2
   go_ret
   exact ⟨ret_int' HR.out.symm, rfl⟩
 · have hr : Lib.compareInt a b = 1 := by simp [Lib.compareInt, h]; omega
   have HR := Lib.hid hr
   clear hr
   go_enter Tryd.func40, Tryd.ntmps40
   go_wp2
   go_ret
   exact ⟨ret_int' HR.out.symm, rfl⟩
theorem or_any (g : Nat) (x y z : Int) (w : World) (h0 : w.cell? ⟨g, 0, none⟩ = some (.int .i64 x)) (h1 : w.cell? ⟨g, 1, none⟩ = some (.int .i64 y)) (h2 : w.cell? ⟨g, 2, none⟩ = some (.int .i64 z)) :
   Calls Tryd.prog 39 #[.slice (some ⟨g, 0, none⟩) 3 3] w fun e w' => e = .returned (.int .i64 (if x = 0 then (if y = 0 then z else y) else x)) ∧ w' = w := by
 by_cases hx : x = 0
 · subst hx
   by_cases hy : y = 0
   · subst hy
     by_cases hz : z = 0
     · subst hz
       go_enter Tryd.func39, Tryd.ntmps39
       go_wp2
       refine wp_loop_rounds 4 ?_
       rw [rounds_succ]
       go_wp2
       rw [rounds_succ]
       go_wp2
       rw [rounds_succ]
       go_wp2
       rw [rounds_succ]
       go_wp2
       go_ret
       exact ⟨rfl, rfl⟩
     · have hb : (z == 0) = false := by simpa using hz
       have HR := Lib.hid (ret_int' (show z = (if (0 : Int) = 0 then (if (0 : Int) = 0 then z else 0) else 0) by simp))
       go_enter Tryd.func39, Tryd.ntmps39
       go_wp2
       refine wp_loop_rounds 4 ?_
       rw [rounds_succ]
       go_wp2
       rw [rounds_succ]
       go_wp2
       rw [rounds_succ]
       go_wp2
       go_ret
       exact ⟨HR.out, rfl⟩
   · have hb : (y == 0) = false := by simpa using hy
     go_enter Tryd.func39, Tryd.ntmps39
     go_wp2
     refine wp_loop_rounds 4 ?_
     rw [rounds_succ]
     go_wp2
     rw [rounds_succ]
     go_wp2
     go_ret
     exact ⟨rfl, rfl⟩
 · have hb : (x == 0) = false := by simpa using hx
   go_enter Tryd.func39, Tryd.ntmps39
   go_wp2
   refine wp_loop_rounds 4 ?_
   rw [rounds_succ]
   go_wp2
   go_ret
   exact ⟨rfl, rfl⟩
def Grown (W w' : World) : Prop := ∃ q os, w' = grow (W.drewN q) os
theorem Grown.refl (W : World) : Grown W W := ⟨0, #[], by rw [Go.Sort.grow_empty]; rfl⟩
theorem Grown.alloc {W w' : World} (h : Grown W w') (o : Obj) : Grown W (w'.alloc o) := by
 obtain ⟨q, os, rfl⟩ := h
 exact ⟨q, os ++ #[o], by rw [alloc_eq_grow, grow_grow]⟩
theorem Grown.drew {W w' : World} (h : Grown W w') : Grown W w'.drew := by
 obtain ⟨q, os, rfl⟩ := h
 exact ⟨q + 1, os, rfl⟩
theorem drewN_heap (w : World) : ∀ q, (w.drewN q).heap = w.heap
 | 0 => rfl
 | q + 1 => drewN_heap w q
theorem cell_old {W : World} {o : Obj} {a : Addr} {v : Value} (h : W.cell? a = some v) : (W.alloc o).cell? a = some v := by
 unfold World.cell? at h ⊢
 have hlt : a.block < W.heap.size := by
   cases hb : W.heap[a.block]? with
   | none => rw [hb] at h; cases h
   | some x => exact (Array.getElem?_eq_some_iff.1 hb).1
 have : (W.alloc o).heap[a.block]? = W.heap[a.block]? := by
   show (W.heap.push o)[a.block]? = _
   rw [Array.getElem?_push, if_neg (by omega)]
 rw [this]
 exact h
theorem cell_new (W : World) (p q r : Value) (ty : TypeId) {g : Nat} (hg : g = W.heap.size) : (W.alloc (.cells #[p, q, r] ty)).cell? ⟨g, 0, none⟩ = some p ∧ (W.alloc (.cells #[p, q, r] ty)).cell? ⟨g, 1, none⟩ = some q ∧ (W.alloc (.cells #[p, q, r] ty)).cell? ⟨g, 2, none⟩ = some r := by
 subst hg
 have : (W.alloc (.cells #[p, q, r] ty)).heap[W.heap.size]? = some (.cells #[p, q, r] ty) := by
   show (W.heap.push _)[W.heap.size]? = _
   rw [Array.getElem?_push, if_pos rfl]
 unfold World.cell?
 rw [this]
 exact ⟨rfl, rfl, rfl⟩
theorem cell_drew {W : World} {a : Addr} {v : Value} (h : W.cell? a = some v) : W.drew.cell? a = some v := h
theorem cell_grown {W w' : World} {a : Addr} {v : Value} (hg : Grown W w') (h : W.cell? a = some v) : w'.cell? a = some v := by
 obtain ⟨q, os, rfl⟩ := hg
 have hlt : a.block < W.heap.size := by
   unfold World.cell? at h
   cases hb : W.heap[a.block]? with
   | none => rw [hb] at h; cases h
   | some x => exact (Array.getElem?_eq_some_iff.1 hb).1
 rw [cell?_grow _ _ _ (by rw [drewN_heap]; exact hlt)]
 unfold World.cell? at h ⊢
 rw [drewN_heap]
 exact h
set_option maxHeartbeats 8000000 in
set_option maxRecDepth 100000 in
theorem closure_any (a b e1 c d e2 : Int) (W : World) : Calls Tryd.prog 38 #[.agg #[.int .i64 a, .int .i64 b, .int .i64 e1], .agg #[.int .i64 c, .int .i64 d, .int .i64 e2]] W fun e w' => e = .returned (.int .i64 (if Lib.compareInt a c = 0 then (if Lib.compareInt b d = 0 then Lib.compareInt e1 e2 else Lib.compareInt b d) else Lib.compareInt a c)) ∧ Grown W w' := by
 have HC1 : Hid (∀ w, Calls Tryd.prog 40 #[.int .i64 a, .int .i64 c] w fun e w' => e = .returned (.int .i64 (Lib.compareInt a c)) ∧ w' = w) := Lib.hid fun w => cmp_any a c w
 have HC2 : Hid (∀ w, Calls Tryd.prog 40 #[.int .i64 b, .int .i64 d] w fun e w' => e = .returned (.int .i64 (Lib.compareInt b d)) ∧ w' = w) := Lib.hid fun w => cmp_any b d w
 have HC3 : Hid (∀ w, Calls Tryd.prog 40 #[.int .i64 e1, .int .i64 e2] w fun e w' => e = .returned (.int .i64 (Lib.compareInt e1 e2)) ∧ w' = w) := Lib.hid fun w => cmp_any e1 e2 w
 generalize Lib.compareInt a c = x at HC1 ⊢
 generalize Lib.compareInt b d = y at HC2 ⊢
 generalize Lib.compareInt e1 e2 = z at HC3 ⊢
 have HO : Hid (∀ (g : Nat) (w : World), w.cell? ⟨g, 0, none⟩ = some (.int .i64 x) → w.cell? ⟨g, 1, none⟩ = some (.int .i64 y) → w.cell? ⟨g, 2, none⟩ = some (.int .i64 z) → Calls Tryd.prog 39 #[.slice (some ⟨g, 0, none⟩) 3 3] w fun e w' => e = .returned (.int .i64 (if x = 0 then (if y = 0 then z else y) else x)) ∧ w' = w) := Lib.hid fun g w h0 h1 h2 => or_any g x y z w h0 h1 h2
 generalize (if x = 0 then (if y = 0 then z else y) else x) = r at HO ⊢
 go_enter Tryd.func38, Tryd.ntmps38
 have HS : Hid (∀ w', Grown ((W.alloc (.cells #[.int .i64 a, .int .i64 b, .int .i64 e1] 26)).alloc (.cells #[.int .i64 c, .int .i64 d, .int .i64 e2] 26)) w' → Grown ((W.alloc (.cells #[.int .i64 a, .int .i64 b, .int .i64 e1] 26)).alloc (.cells #[.int .i64 c, .int .i64 d, .int .i64 e2] 26)) w' ∧ w'.cell? ⟨W.heap.size, 0, none⟩ = some (.int .i64 a) ∧ w'.cell? ⟨W.heap.size, 1, none⟩ = some (.int .i64 b) ∧ w'.cell? ⟨W.heap.size, 2, none⟩ = some (.int .i64 e1) ∧ w'.cell? ⟨W.heap.size + 1, 0, none⟩ = some (.int .i64 c) ∧ w'.cell? ⟨W.heap.size + 1, 1, none⟩ = some (.int .i64 d) ∧ w'.cell? ⟨W.heap.size + 1, 2, none⟩ = some (.int .i64 e2)) := Lib.hid fun w' h => ⟨h, cell_grown h (cell_old (cell_new _ _ _ _ _ (by simp)).1), cell_grown h (cell_old (cell_new _ _ _ _ _ (by simp)).2.1), cell_grown h (cell_old (cell_new _ _ _ _ _ (by simp)).2.2), cell_grown h (cell_new _ _ _ _ _ (by simp)).1, cell_grown h (cell_new _ _ _ _ _ (by simp)).2.1, cell_grown h (cell_new _ _ _ _ _ (by simp)).2.2⟩
 go_wp2_with fail
 go_region_held3 (fun w' => Grown ((W.alloc (.cells #[.int .i64 a, .int .i64 b, .int .i64 e1] 26)).alloc (.cells #[.int .i64 c, .int .i64 d, .int .i64 e2] 26)) w' ∧ w'.cell? ⟨W.heap.size, 0, none⟩ = some (.int .i64 a) ∧ w'.cell? ⟨W.heap.size, 1, none⟩ = some (.int .i64 b) ∧ w'.cell? ⟨W.heap.size, 2, none⟩ = some (.int .i64 e1) ∧ w'.cell? ⟨W.heap.size + 1, 0, none⟩ = some (.int .i64 c) ∧ w'.cell? ⟨W.heap.size + 1, 1, none⟩ = some (.int .i64 d) ∧ w'.cell? ⟨W.heap.size + 1, 2, none⟩ = some (.int .i64 e2)) (with_reducible (first | exact HS.out _ (Grown.refl _) | exact HS.out _ (Grown.refl _).drew | exact HS.out _ ((Grown.refl _).drew.alloc _) | exact HS.out _ ((Grown.refl _).alloc _))) (first
   | (go_at_call 40; first | ((with_reducible refine (HC1.out _).mono ?_); rintro e w' ⟨rfl, rfl⟩) | ((with_reducible refine (HC2.out _).mono ?_); rintro e w' ⟨rfl, rfl⟩) | ((with_reducible refine (HC3.out _).mono ?_); rintro e w' ⟨rfl, rfl⟩))
   | (go_at_call 39; refine (HO.out _ _ (by first | exact (cell_new _ _ _ _ _ (by simp)).1 | exact cell_drew (cell_new _ _ _ _ _ (by simp)).1) (by first | exact (cell_new _ _ _ _ _ (by simp)).2.1 | exact cell_drew (cell_new _ _ _ _ _ (by simp)).2.1) (by first | exact (cell_new _ _ _ _ _ (by simp)).2.2 | exact cell_drew (cell_new _ _ _ _ _ (by simp)).2.2)).mono ?_; rintro e w' ⟨rfl, rfl⟩)
   | fail)
 go_wp2_with fail
 go_ret
 exact ⟨rfl, ((((Grown.refl _).alloc _).alloc _).alloc _).drew⟩
end Go.Proofs.YtopohipcpomecaaDoor
