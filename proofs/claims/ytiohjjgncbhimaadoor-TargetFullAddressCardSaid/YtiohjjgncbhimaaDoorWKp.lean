/-
  Instructions that came in.
-/
import Derived.Test.YtiohjjgncbhimaaDoorWAop
import Derived.Test.YtiohjjgncbhimaaDoorWKe
namespace Go.Proofs.YtiohjjgncbhimaaDoor.Pk
open Go Go.Pv Go.RowKit Go.Proofs.YtiohjjgncbhimaaDoor.Pu Go.Proofs.YtiohjjgncbhimaaDoor.Pa Go.Proofs.YtiohjjgncbhimaaDoor.Pb
set_option linter.unusedSimpArgs false
open Lab Lcs Go.Proofs.YtiohjjgncbhimaaDoor
set_option maxRecDepth 100000
def S1 : List TypeId := [3, 9, 23, 83, 85, 24, 27, 25, 59, 28, 29, 31, 34, 32]
theorem S1_ok : closed Tryd.prog S1 = true := by kernel_rfl
theorem agg_str : aggT Tryd.prog 9 = false := by kernel_rfl
theorem agg_item : aggT Tryd.prog 34 = true := by kernel_rfl
theorem c_str : Tryd.prog.cellsOf 9 = 1 := by kernel_rfl
theorem c_item : Tryd.prog.cellsOf 34 = 25 := by kernel_rfl
theorem steps_of {is : List IV} (h : OkC Tryd.prog 28 is) : ∃ L : List Stp, is = [.sl 2 (L.map spv)] ∧ L.length ≤ maxLen := by
 obtain ⟨css, rfl, h2, h3⟩ := h.slice_inv Tryd.underlying28
 obtain ⟨L, h4, h5, _⟩ := elems_of (f := spv) (ok := fun _ => True) (fun cs hcs => by
   obtain ⟨x, rfl, hx⟩ := step_of hcs
   exact ⟨x, by rw [agg_step]; rfl, trivial⟩) css h3
 exact ⟨L, by rw [c_step, h4], by omega⟩
theorem strs_of {is : List IV} (h : OkC Tryd.prog 29 is) : ∃ L : List Str, is = [.sl 1 (L.map IV.str)] ∧ L.length ≤ maxLen := by
 obtain ⟨css, rfl, h2, h3⟩ := h.slice_inv Tryd.underlying29
 obtain ⟨L, h4, h5, _⟩ := elems_of (f := IV.str) (ok := fun _ => True) (fun cs hcs => by
   obtain ⟨x, rfl, hx⟩ := hcs.str_inv Tryd.underlying9
   exact ⟨x, by rw [agg_str]; rfl, trivial⟩) css h3
 exact ⟨L, by rw [c_str, h4], by omega⟩
theorem start_of {is : List IV} (h : OkC Tryd.prog 31 is) : ∃ (k d : Int) (e : Str), is = [.int .i64 k, .int .i64 d, .str e] := by
 obtain ⟨parts, rfl, hl, hp⟩ := h.strct_inv Tryd.underlying31
 match parts, hl with
 | [p0, p1, p2], _ =>
   obtain ⟨k, rfl, _⟩ := (hp 0 _ _ rfl rfl).int_inv Tryd.underlying3
   obtain ⟨d, rfl, _⟩ := (hp 1 _ _ rfl rfl).int_inv Tryd.underlying3
   obtain ⟨e, rfl, _⟩ := (hp 2 _ _ rfl rfl).str_inv Tryd.underlying9
   exact ⟨k, d, e, rfl⟩
theorem items_of {t : TypeId} {is : List IV} (h : OkC Tryd.prog t is) : (t = 34 → ∃ x : It, IV.agg is = itv x ∧ FitI x) ∧ (t = 32 → ∃ L : List It, is = [.sl 25 (L.map itv)] ∧ L.length ≤ maxLen ∧ ∀ x ∈ L, FitI x) := by
 induction h with
 | int hu _ => exact ⟨fun e => (by subst e; rw [Tryd.underlying34] at hu; cases hu), fun e => by subst e; rw [Tryd.underlying32] at hu; cases hu⟩
 | str hu _ => exact ⟨fun e => (by subst e; rw [Tryd.underlying34] at hu; cases hu), fun e => by subst e; rw [Tryd.underlying32] at hu; cases hu⟩
 | bool hu => exact ⟨fun e => (by subst e; rw [Tryd.underlying34] at hu; cases hu), fun e => by subst e; rw [Tryd.underlying32] at hu; cases hu⟩
 | strct parts hu hl hp ih =>
   refine ⟨fun e => ?_, fun e => by subst e; rw [Tryd.underlying32] at hu; cases hu⟩
   subst e
   rw [Tryd.underlying34] at hu
   injection hu with hu
   injection hu with hu
   subst hu
   match parts, hl with
   | [p0, p1, p2, p3, p4, p5, p6, p7, p8, p9, p10, p11, p12, p13, p14, p15], _ =>
     obtain ⟨kind, rfl, _⟩ := (hp 0 _ _ rfl rfl).int_inv Tryd.underlying3
     obtain ⟨p, rfl, hpl⟩ := steps_of (hp 1 _ _ rfl rfl)
     obtain ⟨q, rfl, hql⟩ := steps_of (hp 2 _ _ rfl rfl)
     obtain ⟨z, rfl, _⟩ := (hp 3 _ _ rfl rfl).int_inv Tryd.underlying3
     obtain ⟨nth, rfl, _⟩ := (hp 4 _ _ rfl rfl).int_inv Tryd.underlying3
     obtain ⟨u, hue, huf⟩ := (units_of (hp 5 _ _ rfl rfl)).1 rfl
     obtain ⟨old, rfl, hol⟩ := strs_of (hp 6 _ _ rfl rfl)
     obtain ⟨new, rfl, hnl⟩ := strs_of (hp 7 _ _ rfl rfl)
     obtain ⟨lb, rfl, _⟩ := (hp 8 _ _ rfl rfl).str_inv Tryd.underlying9
     obtain ⟨fr, rfl, _⟩ := (hp 9 _ _ rfl rfl).str_inv Tryd.underlying9
     obtain ⟨sk, sd, se, rfl⟩ := start_of (hp 10 _ _ rfl rfl)
     obtain ⟨a, rfl, _⟩ := (hp 11 _ _ rfl rfl).int_inv Tryd.underlying3
     obtain ⟨i, rfl, _⟩ := (hp 12 _ _ rfl rfl).int_inv Tryd.underlying3
     obtain ⟨d, rfl, _⟩ := (hp 13 _ _ rfl rfl).int_inv Tryd.underlying3
     obtain ⟨ev, rfl, _⟩ := (hp 14 _ _ rfl rfl).str_inv Tryd.underlying9
     obtain ⟨bys, rfl, hbl, hbf⟩ := (ih 15 _ _ rfl rfl).2 rfl
     rw [uv_eq] at hue
     injection hue with hue
     subst hue
     refine ⟨.mk kind p q z nth u old new lb fr sk sd se a i d ev bys, by rw [itv_eq]; rfl, .mk _ huf.ok ⟨hpl, hql, hol, hnl, hbl⟩ hbf⟩
 | slice css hu h2 h3 ih =>
   refine ⟨fun e => (by subst e; rw [Tryd.underlying34] at hu; cases hu), fun e => ?_⟩
   subst e
   rw [Tryd.underlying32] at hu
   injection hu with hu
   injection hu with hu
   subst hu
   obtain ⟨L, h4, h5, h6⟩ : ∃ L : List It, css.map (elemI (aggT Tryd.prog 34)) = L.map itv ∧ L.length = css.length ∧ ∀ u ∈ L, FitI u := by
     clear h2
     induction css with
     | nil => exact ⟨[], rfl, rfl, fun _ h => by cases h⟩
     | cons cs l ih2 =>
       obtain ⟨u, g1, g2⟩ := (ih cs List.mem_cons_self).1 rfl
       obtain ⟨L, g3, g4, g5⟩ := ih2 (fun c hc => h3 c (List.mem_cons_of_mem _ hc)) (fun c hc => ih c (List.mem_cons_of_mem _ hc))
       refine ⟨u :: L, ?_, by simp [g4], fun x hx => ?_⟩
       · rw [List.map_cons, List.map_cons, g3, ← g1, agg_item]
         rfl
       · rcases List.mem_cons.1 hx with rfl | hx
         · exact g2
         · exact g5 x hx
   exact ⟨L, by rw [c_item, h4], by omega, h6⟩
section
variable {H : Type} {enc : TypeId × Value → H} {w : World} {bs : Nat} {spare : Nat → Bool} {held : Bool}
theorem item_open {cs : Array Value} {d : DataW H} {p : List MemPlace} (h : ∃ fuel, DataW.trod enc Tryd.prog w bs spare held fuel 34 cs.toList = some (d, p)) :
   ∃ x : It, RepI (fun b => b < w.heap.size) w (itv x) (.agg cs) ∧ FitI x := by
 obtain ⟨fuel, h⟩ := h
 obtain ⟨is, h1, h2⟩ := open_cells S1_ok fuel 34 cs.toList _ (by decide) h
 obtain ⟨x, h3, h4⟩ := (items_of h2).1 rfl
 refine ⟨x, ?_, h4⟩
 rw [← h3, RepI_agg]
 exact ⟨_, by simp, h1⟩
end
end Go.Proofs.YtiohjjgncbhimaaDoor.Pk
