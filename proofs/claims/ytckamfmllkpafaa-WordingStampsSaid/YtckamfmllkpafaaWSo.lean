/-
  Arguments that came in: units.
-/
import Derived.Test.YtckamfmllkpafaaWSe
namespace Go.Proofs.Ytckamfmllkpafaa.Pw
open Go Go.Pv Go.RowKit Go.Proofs.Ytckamfmllkpafaa.Pu Go.Proofs.Ytckamfmllkpafaa.Pb
set_option linter.unusedSimpArgs false
open Lab Lcs Go.Proofs.Ytckamfmllkpafaa
set_option maxRecDepth 100000
def S0 : List TypeId := [3, 9, 23, 47, 49, 24, 27, 25]
theorem S0_ok : closed Try.prog S0 = true := by kernel_rfl
theorem agg_word : aggT Try.prog 49 = true := by kernel_rfl
theorem agg_unit : aggT Try.prog 27 = true := by kernel_rfl
theorem c_word : Try.prog.cellsOf 49 = 4 := by kernel_rfl
theorem c_unit : Try.prog.cellsOf 27 = 8 := by kernel_rfl
theorem in_of {z : Int} (hw : (Lit.int .i64 z).wf = true) : inI z := by simpa [inI, Lit.wf, IntKind.min, IntKind.max, IntKind.signed, IntKind.bits] using hw
theorem three_of {is : List IV} {t : TypeId} {fs : Array Field} (hu : Try.prog.underlying t = some (.struct fs)) (hf : fs.toList.map Field.type = [3, 3, 3]) (h : OkC Try.prog t is) : ∃ x : Trip, is = idl x ∧ x.ok := by
 obtain ⟨parts, rfl, hl, hp⟩ := h.strct_inv hu
 have hs : fs.size = 3 := by have := congrArg List.length hf; simpa using this
 rw [hs] at hl
 have hty : ∀ i, i < 3 → ∃ f, fs[i]? = some f ∧ f.type = 3 := by
   intro i hi
   have h1 := congrArg (·[i]?) hf
   simp only [List.getElem?_map, Array.getElem?_toList] at h1
   cases hfi : fs[i]? with
   | none => rw [Array.getElem?_eq_none_iff] at hfi; omega
   | some f =>
     rw [hfi] at h1
     refine ⟨f, rfl, ?_⟩
     match i, hi with
     | 0, _ => simpa using h1
     | 1, _ => simpa using h1
     | 2, _ => simpa using h1
 match parts, hl with
 | [p0, p1, p2], _ =>
   obtain ⟨f0, e0, t0⟩ := hty 0 (by decide)
   obtain ⟨f1, e1, t1⟩ := hty 1 (by decide)
   obtain ⟨f2, e2, t2⟩ := hty 2 (by decide)
   have h0 := hp 0 f0 p0 e0 rfl
   have h1 := hp 1 f1 p1 e1 rfl
   have h2 := hp 2 f2 p2 e2 rfl
   rw [t0] at h0
   rw [t1] at h1
   rw [t2] at h2
   obtain ⟨z0, rfl, g0⟩ := h0.int_inv Try.underlying3
   obtain ⟨z1, rfl, g1⟩ := h1.int_inv Try.underlying3
   obtain ⟨z2, rfl, g2⟩ := h2.int_inv Try.underlying3
   exact ⟨⟨z0, z1, z2⟩, rfl, in_of g0, in_of g1, in_of g2⟩
theorem id_of {is : List IV} (h : OkC Try.prog 23 is) : ∃ x : Trip, is = idl x ∧ x.ok := three_of Try.underlying23 rfl h
theorem mark_of {is : List IV} (h : OkC Try.prog 47 is) : ∃ x : Trip, is = idl x ∧ x.ok := three_of Try.underlying47 rfl h
def okWd (_ : Wd) : Prop := True
theorem word_of {is : List IV} (h : OkC Try.prog 49 is) : ∃ a : Wd, IV.agg is = wdv a ∧ okWd a := by
 obtain ⟨parts, rfl, hl, hp⟩ := h.strct_inv Try.underlying49
 match parts, hl with
 | [p0, p1], _ =>
   obtain ⟨s, rfl, _⟩ := (hp 0 _ _ rfl rfl).str_inv Try.underlying9
   obtain ⟨t, rfl, _⟩ := mark_of (hp 1 _ _ rfl rfl)
   exact ⟨⟨s, t⟩, rfl, trivial⟩
theorem words_of {is : List IV} (h : OkC Try.prog 24 is) : ∃ L : List Wd, is = [.sl 4 (L.map wdv)] ∧ L.length ≤ maxLen ∧ ∀ a ∈ L, okWd a := by
 obtain ⟨css, rfl, h2, h3⟩ := h.slice_inv Try.underlying24
 obtain ⟨L, h4, h5, h6⟩ := elems_of (f := wdv) (ok := okWd) (fun cs hcs => by rw [agg_word]; exact word_of hcs) css h3
 exact ⟨L, by rw [c_word, h4], by omega, h6⟩
abbrev fitU (x : Ut) : Prop := x.head.length ≤ maxLen ∧ x.words.length ≤ maxLen ∧ x.kids.length ≤ maxLen
theorem alls_fit : ∀ {l : List Ut}, (∀ u ∈ l, Fits u) → ∀ x ∈ Ut.alls l, fitU x
 | [], _, x, hx => by simp [Ut.alls] at hx
 | a :: l, h, x, hx => by
   unfold Ut.alls at hx
   rcases List.mem_append.1 hx with hx | hx
   · exact h a List.mem_cons_self x hx
   · exact alls_fit (fun u hu => h u (List.mem_cons_of_mem _ hu)) x hx
theorem units_of {t : TypeId} {is : List IV} (h : OkC Try.prog t is) : (t = 27 → ∃ u : Ut, IV.agg is = uv u ∧ Fits u) ∧ (t = 25 → ∃ L : List Ut, is = [.sl 8 (L.map uv)] ∧ L.length ≤ maxLen ∧ ∀ u ∈ L, Fits u) := by
 induction h with
 | int hu _ => exact ⟨fun e => (by subst e; rw [Try.underlying27] at hu; cases hu), fun e => by subst e; rw [Try.underlying25] at hu; cases hu⟩
 | str hu _ => exact ⟨fun e => (by subst e; rw [Try.underlying27] at hu; cases hu), fun e => by subst e; rw [Try.underlying25] at hu; cases hu⟩
 | bool hu => exact ⟨fun e => (by subst e; rw [Try.underlying27] at hu; cases hu), fun e => by subst e; rw [Try.underlying25] at hu; cases hu⟩
 | strct parts hu hl hp ih =>
   refine ⟨fun e => ?_, fun e => by subst e; rw [Try.underlying25] at hu; cases hu⟩
   subst e
   rw [Try.underlying27] at hu
   injection hu with hu
   injection hu with hu
   subst hu
   match parts, hl with
   | [p0, p1, p2, p3, p4, p5], _ =>
     obtain ⟨i, rfl, _⟩ := id_of (hp 0 _ _ rfl rfl)
     obtain ⟨k, rfl, _⟩ := (hp 1 _ _ rfl rfl).int_inv Try.underlying3
     obtain ⟨s, rfl, _⟩ := (hp 2 _ _ rfl rfl).str_inv Try.underlying9
     obtain ⟨hd, rfl, hh1, _⟩ := words_of (hp 3 _ _ rfl rfl)
     obtain ⟨wd, rfl, hw1, _⟩ := words_of (hp 4 _ _ rfl rfl)
     obtain ⟨ks, rfl, hk1, hk2⟩ := (ih 5 _ _ rfl rfl).2 rfl
     refine ⟨.mk i k s hd wd ks, by rw [uv_mk]; rfl, fun x hx => ?_⟩
     rw [all_mk] at hx
     rcases List.mem_cons.1 hx with rfl | hx
     · exact ⟨hh1, hw1, hk1⟩
     · exact alls_fit hk2 x hx
 | slice css hu h2 h3 ih =>
   refine ⟨fun e => (by subst e; rw [Try.underlying27] at hu; cases hu), fun e => ?_⟩
   subst e
   rw [Try.underlying25] at hu
   injection hu with hu
   injection hu with hu
   subst hu
   obtain ⟨L, h4, h5, h6⟩ : ∃ L : List Ut, css.map (elemI (aggT Try.prog 27)) = L.map uv ∧ L.length = css.length ∧ ∀ u ∈ L, Fits u := by
     clear h2
     induction css with
     | nil => exact ⟨[], rfl, rfl, fun _ h => by cases h⟩
     | cons cs l ih2 =>
       obtain ⟨u, g1, g2⟩ := (ih cs List.mem_cons_self).1 rfl
       obtain ⟨L, g3, g4, g5⟩ := ih2 (fun c hc => h3 c (List.mem_cons_of_mem _ hc)) (fun c hc => ih c (List.mem_cons_of_mem _ hc))
       refine ⟨u :: L, ?_, by simp [g4], fun x hx => ?_⟩
       · rw [List.map_cons, List.map_cons, g3, ← g1, agg_unit]
         rfl
       · rcases List.mem_cons.1 hx with rfl | hx
         · exact g2
         · exact g5 x hx
   exact ⟨L, by rw [c_unit, h4], by omega, h6⟩
section
variable {H : Type} {enc : TypeId × Value → H} {w : World} {bs : Nat} {spare : Nat → Bool} {held : Bool}
theorem unit_open {cs : Array Value} {d : DataW H} {p : List MemPlace} (_hs : cs.size = Try.prog.cellsOf 27) (h : ∃ fuel, DataW.trod enc Try.prog w bs spare held fuel 27 cs.toList = some (d, p)) :
   ∃ u : Ut, RepI (fun b => b < w.heap.size) w (uv u) (.agg cs) ∧ Fits u := by
 obtain ⟨fuel, h⟩ := h
 obtain ⟨is, h1, h2⟩ := open_cells S0_ok fuel 27 cs.toList _ (by decide) h
 obtain ⟨u, h3, h4⟩ := (units_of h2).1 rfl
 refine ⟨u, ?_, h4⟩
 rw [← h3, RepI_agg]
 exact ⟨_, by simp, h1⟩
end
end Go.Proofs.Ytckamfmllkpafaa.Pw
