/-
  Arguments that came in: units; how long what they hold is.
-/
import Derived.Test.YtopohipcpomecaaDoorWEc
namespace Go.Proofs.YtopohipcpomecaaDoor.Pd
open Go Go.Pv Go.RowKit Go.Proofs.YtopohipcpomecaaDoor.Pu Go.Proofs.YtopohipcpomecaaDoor.Pb
set_option linter.unusedSimpArgs false
open Lab Lcs Go.Proofs.YtopohipcpomecaaDoor
set_option maxRecDepth 100000
def S0 : List TypeId := [3, 9, 26, 51, 53, 27, 30, 28]
theorem S0_ok : closed Tryd.prog S0 = true := by kernel_rfl
theorem agg_word : Go.Pv.aggT Tryd.prog 53 = true := by kernel_rfl
theorem agg_unit : Go.Pv.aggT Tryd.prog 30 = true := by kernel_rfl
theorem c_word : Tryd.prog.cellsOf 53 = 4 := by kernel_rfl
theorem c_unit : Tryd.prog.cellsOf 30 = 8 := by kernel_rfl
theorem in_of {z : Int} (hw : (Lit.int .i64 z).wf = true) : inN z := by simpa [inN, Lit.wf, IntKind.min, IntKind.max, IntKind.signed, IntKind.bits] using hw
def Trip.okN (x : Trip) : Prop := inN x.x ∧ inN x.y ∧ inN x.z
theorem three_of {is : List IV} {t : TypeId} {fs : Array Field} (hu : Tryd.prog.underlying t = some (.struct fs)) (hf : fs.toList.map Field.type = [3, 3, 3]) (h : OkC Tryd.prog t is) : ∃ x : Trip, is = idl x ∧ Trip.okN x := by
 obtain ⟨parts, rfl, hl, hp⟩ := h.strct_inv hu
 have hs : fs.size = 3 := by have := congrArg List.length hf; simpa using this
 rw [hs] at hl
 have hty : ∀ i, i < 3 → ∃ f, fs[i]? = some f ∧ f.type = 3 := by
   intro i hi
   have h1 := congrArg (·[i]?) hf
   simp only [List.getElem?_map, Array.getElem?_toList] at h1
   cases hfi : fs[i]? with
   | none => rw [Array.getElem?_eq_none_iff] at hfi; omega
   | some f =>
     rw [hfi] at h1
     refine ⟨f, rfl, ?_⟩
     match i, hi with
     | 0, _ => simpa using h1
     | 1, _ => simpa using h1
     | 2, _ => simpa using h1
 match parts, hl with
 | [p0, p1, p2], _ =>
   obtain ⟨f0, e0, t0⟩ := hty 0 (by decide)
   obtain ⟨f1, e1, t1⟩ := hty 1 (by decide)
   obtain ⟨f2, e2, t2⟩ := hty 2 (by decide)
   have h0 := hp 0 f0 p0 e0 rfl
   have h1 := hp 1 f1 p1 e1 rfl
   have h2 := hp 2 f2 p2 e2 rfl
   rw [t0] at h0
   rw [t1] at h1
   rw [t2] at h2
   obtain ⟨z0, rfl, g0⟩ := h0.int_inv Tryd.underlying3
   obtain ⟨z1, rfl, g1⟩ := h1.int_inv Tryd.underlying3
   obtain ⟨z2, rfl, g2⟩ := h2.int_inv Tryd.underlying3
   exact ⟨⟨z0, z1, z2⟩, rfl, in_of g0, in_of g1, in_of g2⟩
theorem id_of {is : List IV} (h : OkC Tryd.prog 26 is) : ∃ x : Trip, is = idl x ∧ Trip.okN x := three_of Tryd.underlying26 rfl h
theorem mark_of {is : List IV} (h : OkC Tryd.prog 51 is) : ∃ x : Trip, is = idl x ∧ Trip.okN x := three_of Tryd.underlying51 rfl h
def okWd (w : Wd) : Prop := inN w.mark.x ∧ inN w.mark.y ∧ inN w.mark.z
theorem word_of {is : List IV} (h : OkC Tryd.prog 53 is) : ∃ a : Wd, IV.agg is = wdv a ∧ okWd a := by
 obtain ⟨parts, rfl, hl, hp⟩ := h.strct_inv Tryd.underlying53
 match parts, hl with
 | [p0, p1], _ =>
   obtain ⟨s, rfl, _⟩ := (hp 0 _ _ rfl rfl).str_inv Tryd.underlying9
   obtain ⟨t, rfl, ht⟩ := mark_of (hp 1 _ _ rfl rfl)
   exact ⟨⟨s, t⟩, rfl, ht⟩
theorem words_of {is : List IV} (h : OkC Tryd.prog 27 is) : ∃ L : List Wd, is = [.sl 4 (L.map wdv)] ∧ L.length ≤ maxLen ∧ ∀ a ∈ L, okWd a := by
 obtain ⟨css, rfl, h2, h3⟩ := h.slice_inv Tryd.underlying27
 obtain ⟨L, h4, h5, h6⟩ := elems_of (f := wdv) (ok := okWd) (fun cs hcs => by rw [agg_word]; exact word_of hcs) css h3
 exact ⟨L, by rw [c_word, h4], by omega, h6⟩
structure fitU (x : Ut) : Prop where
 id : inN x.id.x ∧ inN x.id.y ∧ inN x.id.z
 kind : inN x.kind
 okh : OkW x.head
 okw : OkW x.words
def Fits (u : Ut) : Prop := ∀ x ∈ u.all, fitU x
theorem alls_fit : ∀ {l : List Ut}, (∀ u ∈ l, Fits u) → ∀ x ∈ Ut.alls l, fitU x
 | [], _, x, hx => by simp [Ut.alls] at hx
 | a :: l, h, x, hx => by
   unfold Ut.alls at hx
   rcases List.mem_append.1 hx with hx | hx
   · exact h a List.mem_cons_self x hx
   · exact alls_fit (fun u hu => h u (List.mem_cons_of_mem _ hu)) x hx
theorem units_of {t : TypeId} {is : List IV} (h : OkC Tryd.prog t is) : (t = 30 → ∃ u : Ut, IV.agg is = uv u ∧ Fits u) ∧ (t = 28 → ∃ L : List Ut, is = [.sl 8 (L.map uv)] ∧ L.length ≤ maxLen ∧ ∀ u ∈ L, Fits u) := by
 induction h with
 | int hu _ => exact ⟨fun e => (by subst e; rw [Tryd.underlying30] at hu; cases hu), fun e => by subst e; rw [Tryd.underlying28] at hu; cases hu⟩
 | str hu _ => exact ⟨fun e => (by subst e; rw [Tryd.underlying30] at hu; cases hu), fun e => by subst e; rw [Tryd.underlying28] at hu; cases hu⟩
 | bool hu => exact ⟨fun e => (by subst e; rw [Tryd.underlying30] at hu; cases hu), fun e => by subst e; rw [Tryd.underlying28] at hu; cases hu⟩
 | strct parts hu hl hp ih =>
   refine ⟨fun e => ?_, fun e => by subst e; rw [Tryd.underlying28] at hu; cases hu⟩
   subst e
   rw [Tryd.underlying30] at hu
   injection hu with hu
   injection hu with hu
   subst hu
   match parts, hl with
   | [p0, p1, p2, p3, p4, p5], _ =>
     obtain ⟨i, rfl, hi⟩ := id_of (hp 0 _ _ rfl rfl)
     obtain ⟨k, rfl, hk⟩ := (hp 1 _ _ rfl rfl).int_inv Tryd.underlying3
     obtain ⟨s, rfl, _⟩ := (hp 2 _ _ rfl rfl).str_inv Tryd.underlying9
     obtain ⟨hd, rfl, hh1, hh2⟩ := words_of (hp 3 _ _ rfl rfl)
     obtain ⟨wd, rfl, hw1, hw2⟩ := words_of (hp 4 _ _ rfl rfl)
     obtain ⟨ks, rfl, hk1, hk2⟩ := (ih 5 _ _ rfl rfl).2 rfl
     refine ⟨.mk i k s hd wd ks, by rw [uv_mk]; rfl, fun x hx => ?_⟩
     rw [all_mk] at hx
     rcases List.mem_cons.1 hx with rfl | hx
     · exact ⟨hi, in_of hk, hh2, hw2⟩
     · exact alls_fit hk2 x hx
 | slice css hu h2 h3 ih =>
   refine ⟨fun e => (by subst e; rw [Tryd.underlying30] at hu; cases hu), fun e => ?_⟩
   subst e
   rw [Tryd.underlying28] at hu
   injection hu with hu
   injection hu with hu
   subst hu
   obtain ⟨L, h4, h5, h6⟩ : ∃ L : List Ut, css.map (elemI (Go.Pv.aggT Tryd.prog 30)) = L.map uv ∧ L.length = css.length ∧ ∀ u ∈ L, Fits u := by
     clear h2
     induction css with
     | nil => exact ⟨[], rfl, rfl, fun _ h => by cases h⟩
     | cons cs l ih2 =>
       obtain ⟨u, g1, g2⟩ := (ih cs List.mem_cons_self).1 rfl
       obtain ⟨L, g3, g4, g5⟩ := ih2 (fun c hc => h3 c (List.mem_cons_of_mem _ hc)) (fun c hc => ih c (List.mem_cons_of_mem _ hc))
       refine ⟨u :: L, ?_, by simp [g4], fun x hx => ?_⟩
       · rw [List.map_cons, List.map_cons, g3, ← g1, agg_unit]
         rfl
       · rcases List.mem_cons.1 hx with rfl | hx
         · exact g2
         · exact g5 x hx
   exact ⟨L, by rw [c_unit, h4], by omega, h6⟩
theorem sz_words {m : Nat} {l : List Wd} (h : szL m (l.map wdv)) : ∀ w ∈ l, w.text.size ≤ m := fun w hw => by
 have h1 := szL_iff.1 h (wdv w) (List.mem_map_of_mem hw)
 unfold wdv at h1
 simp only [szI, szL] at h1
 exact h1.1
structure szU (m : Nat) (x : Ut) : Prop where
 head : x.head.length ≤ m
 words : x.words.length ≤ m
 label : x.label.size ≤ m
 kids : x.kids.length ≤ m
 txt : ∀ w ∈ x.head ++ x.words, w.text.size ≤ m
theorem sz_all (m : Nat) (N : Nat) : ∀ u : Ut, u.count ≤ N → szI m (uv u) → ∀ x ∈ u.all, szU m x := by
 induction N with
 | zero => intro u h; have := count_pos u; omega
 | succ N ih =>
   intro u hN h x hx
   rw [uv_eq] at h
   simp only [szI, szL, true_and, and_true] at h
   obtain ⟨h1, ⟨h2, h3⟩, ⟨h4, h5⟩, h6, h7⟩ := h
   rw [List.length_map] at h2 h4 h6
   rw [Ut.all_eq] at hx
   rcases List.mem_cons.1 hx with e | e
   · rw [e]
     refine ⟨h2, h4, h1, h6, fun w hw => ?_⟩
     rcases List.mem_append.1 hw with hw | hw
     · exact sz_words h3 w hw
     · exact sz_words h5 w hw
   · obtain ⟨k, hk, hxk⟩ := mem_alls.1 e
     refine ih k ?_ (szL_iff.1 h7 (uv k) (List.mem_map_of_mem hk)) x hxk
     obtain ⟨i, hi, rfl⟩ := List.getElem_of_mem hk
     have := kid_lt' (List.getElem?_eq_getElem hi)
     omega
section
variable {H : Type} {enc : TypeId × Value → H} {w : World} {bs : Nat} {spare : Nat → Bool} {held : Bool}
theorem unit_open {cs : Array Value} {d : DataW H} {p : List MemPlace} (_hs : cs.size = Tryd.prog.cellsOf 30) (h : ∃ fuel, DataW.trod enc Tryd.prog w bs spare held fuel 30 cs.toList = some (d, p)) (hw : ∀ n ∈ d.weights Tryd.prog 30, n ≤ reachBytes) :
   ∃ u : Ut, RepI (fun b => b < w.heap.size) w (uv u) (.agg cs) ∧ Rch u := by
 obtain ⟨fuel, h⟩ := h
 obtain ⟨is, h1, h2, h5⟩ := open_cellsW S0_ok fuel 30 cs.toList _ (by decide) h
 obtain ⟨u, h3, h4⟩ := (units_of h2).1 rfl
 have h6 : szI reachBytes (uv u) := by
   rw [← h3]
   simp only [szI]
   exact h5 _ hw
 refine ⟨u, ?_, fun x hx => ?_⟩
 · rw [← h3, RepI_agg]
   exact ⟨_, by simp, h1⟩
 · obtain ⟨a1, a2, a3, a4⟩ := h4 x hx
   obtain ⟨b1, b2, b3, b4, b5⟩ := sz_all reachBytes _ u (Nat.le_refl _) h6 x hx
   exact ⟨b1, b2, b3, b4, b5, a1, a2, a3, a4⟩
end
end Go.Proofs.YtopohipcpomecaaDoor.Pd
