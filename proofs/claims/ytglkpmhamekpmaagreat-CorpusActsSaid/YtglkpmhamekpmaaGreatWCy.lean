/-
  Gazettes that came in.
-/
import Derived.Test.YtglkpmhamekpmaaGreatWCx
namespace Go.Proofs.YtglkpmhamekpmaaGreat.Po
open Go Go.Pv Go.RowKit
set_option linter.unusedSimpArgs false
open Lab Lcs Go.Proofs.YtglkpmhamekpmaaGreat Go.Proofs.YtglkpmhamekpmaaGreat.Pu
set_option maxRecDepth 100000
theorem agg_word : aggT Tryz.prog 166 = true := by kernel_rfl
theorem agg_unit : aggT Tryz.prog 40 = true := by kernel_rfl
theorem c_word : Tryz.prog.cellsOf 166 = 4 := by kernel_rfl
theorem c_unit : Tryz.prog.cellsOf 40 = 8 := by kernel_rfl
theorem in_of {z : Int} (hw : (Lit.int .i64 z).wf = true) : inI z := by simpa [inI, Lit.wf, IntKind.min, IntKind.max, IntKind.signed, IntKind.bits] using hw
theorem three_of {is : List IV} {t : TypeId} {fs : Array Field} (hu : Tryz.prog.underlying t = some (.struct fs)) (hf : fs.toList.map Field.type = [3, 3, 3]) (h : OkC Tryz.prog t is) : ∃ x : Trip, is = idl x ∧ x.ok := by
 obtain ⟨parts, rfl, hl, hp⟩ := h.strct_inv hu
 have hs : fs.size = 3 := by have := congrArg List.length hf; simpa using this
 rw [hs] at hl
 have hty : ∀ i, i < 3 → ∃ f, fs[i]? = some f ∧ f.type = 3 := by
   intro i hi
   have h1 := congrArg (·[i]?) hf
   simp only [List.getElem?_map, Array.getElem?_toList] at h1
   cases hfi : fs[i]? with
   | none => rw [Array.getElem?_eq_none_iff] at hfi; omega
   | some f =>
     rw [hfi] at h1
     refine ⟨f, rfl, ?_⟩
     match i, hi with
     | 0, _ => simpa using h1
     | 1, _ => simpa using h1
     | 2, _ => simpa using h1
 match parts, hl with
 | [p0, p1, p2], _ =>
   obtain ⟨f0, e0, t0⟩ := hty 0 (by decide)
   obtain ⟨f1, e1, t1⟩ := hty 1 (by decide)
   obtain ⟨f2, e2, t2⟩ := hty 2 (by decide)
   have h0 := hp 0 f0 p0 e0 rfl
   have h1 := hp 1 f1 p1 e1 rfl
   have h2 := hp 2 f2 p2 e2 rfl
   rw [t0] at h0
   rw [t1] at h1
   rw [t2] at h2
   obtain ⟨z0, rfl, g0⟩ := h0.int_inv Tryz.underlying3
   obtain ⟨z1, rfl, g1⟩ := h1.int_inv Tryz.underlying3
   obtain ⟨z2, rfl, g2⟩ := h2.int_inv Tryz.underlying3
   exact ⟨⟨z0, z1, z2⟩, rfl, in_of g0, in_of g1, in_of g2⟩
theorem id_of {is : List IV} (h : OkC Tryz.prog 36 is) : ∃ x : Trip, is = idl x ∧ x.ok := three_of Tryz.underlying36 rfl h
theorem mark_of {is : List IV} (h : OkC Tryz.prog 164 is) : ∃ x : Trip, is = idl x ∧ x.ok := three_of Tryz.underlying164 rfl h
def okWd (a : Wd) : Prop := a.text.size ≤ maxLen ∧ a.mark.ok
theorem word_of {is : List IV} (h : OkC Tryz.prog 166 is) : ∃ a : Wd, IV.agg is = wdv a ∧ okWd a := by
 obtain ⟨parts, rfl, hl, hp⟩ := h.strct_inv Tryz.underlying166
 match parts, hl with
 | [p0, p1], _ =>
   obtain ⟨s, rfl, hs⟩ := (hp 0 _ _ rfl rfl).str_inv Tryz.underlying9
   obtain ⟨t, rfl, ht⟩ := mark_of (hp 1 _ _ rfl rfl)
   exact ⟨⟨s, t⟩, rfl, hs, ht⟩
theorem words_of {is : List IV} (h : OkC Tryz.prog 37 is) : ∃ L : List Wd, is = [.sl 4 (L.map wdv)] ∧ L.length ≤ maxLen ∧ ∀ a ∈ L, okWd a := by
 obtain ⟨css, rfl, h2, h3⟩ := h.slice_inv Tryz.underlying37
 obtain ⟨L, h4, h5, h6⟩ := elems_of (f := wdv) (ok := okWd) (fun cs hcs => by rw [agg_word]; exact word_of hcs) css h3
 exact ⟨L, by rw [c_word, h4], by omega, h6⟩
def fitU (x : Ut) : Prop := x.id.ok ∧ inI x.kind ∧ x.label.size ≤ maxLen ∧ x.head.length ≤ maxLen ∧ x.words.length ≤ maxLen ∧ x.kids.length ≤ maxLen ∧ (∀ a ∈ x.head, okWd a) ∧ ∀ a ∈ x.words, okWd a
def Fit (u : Ut) : Prop := ∀ x ∈ u.all, fitU x
theorem Fit.self {u : Ut} (h : Fit u) : fitU u := h u (by rw [Ut.all_eq]; exact List.mem_cons_self)
theorem Fit.kid {u k : Ut} (h : Fit u) (hk : k ∈ u.kids) : Fit k := fun x hx => h x (by
 rw [Ut.all_eq]
 refine List.mem_cons_of_mem _ ?_
 clear h
 generalize u.kids = l at hk
 induction l with
 | nil => cases hk
 | cons a l ih =>
   unfold Ut.alls
   rcases List.mem_cons.1 hk with rfl | hk
   · exact List.mem_append_left _ hx
   · exact List.mem_append_right _ (ih hk))
theorem alls_fit : ∀ {l : List Ut}, (∀ u ∈ l, Fit u) → ∀ x ∈ Ut.alls l, fitU x
 | [], _, x, hx => by simp [Ut.alls] at hx
 | a :: l, h, x, hx => by
   unfold Ut.alls at hx
   rcases List.mem_append.1 hx with hx | hx
   · exact h a List.mem_cons_self x hx
   · exact alls_fit (fun u hu => h u (List.mem_cons_of_mem _ hu)) x hx
theorem units_of {t : TypeId} {is : List IV} (h : OkC Tryz.prog t is) : (t = 40 → ∃ u : Ut, IV.agg is = uv u ∧ Fit u) ∧ (t = 38 → ∃ L : List Ut, is = [.sl 8 (L.map uv)] ∧ L.length ≤ maxLen ∧ ∀ u ∈ L, Fit u) := by
 induction h with
 | int hu _ => exact ⟨fun e => (by subst e; rw [Tryz.underlying40] at hu; cases hu), fun e => by subst e; rw [Tryz.underlying38] at hu; cases hu⟩
 | str hu _ => exact ⟨fun e => (by subst e; rw [Tryz.underlying40] at hu; cases hu), fun e => by subst e; rw [Tryz.underlying38] at hu; cases hu⟩
 | bool hu => exact ⟨fun e => (by subst e; rw [Tryz.underlying40] at hu; cases hu), fun e => by subst e; rw [Tryz.underlying38] at hu; cases hu⟩
 | strct parts hu hl hp ih =>
   refine ⟨fun e => ?_, fun e => by subst e; rw [Tryz.underlying38] at hu; cases hu⟩
   subst e
   rw [Tryz.underlying40] at hu
   injection hu with hu
   injection hu with hu
   subst hu
   match parts, hl with
   | [p0, p1, p2, p3, p4, p5], _ =>
     obtain ⟨i, rfl, hi⟩ := id_of (hp 0 _ _ rfl rfl)
     obtain ⟨k, rfl, hk⟩ := (hp 1 _ _ rfl rfl).int_inv Tryz.underlying3
     obtain ⟨s, rfl, hs⟩ := (hp 2 _ _ rfl rfl).str_inv Tryz.underlying9
     obtain ⟨hd, rfl, hh1, hh2⟩ := words_of (hp 3 _ _ rfl rfl)
     obtain ⟨wd, rfl, hw1, hw2⟩ := words_of (hp 4 _ _ rfl rfl)
     obtain ⟨ks, rfl, hk1, hk2⟩ := (ih 5 _ _ rfl rfl).2 rfl
     refine ⟨.mk i k s hd wd ks, by rw [uv_mk]; rfl, fun x hx => ?_⟩
     rw [all_mk] at hx
     rcases List.mem_cons.1 hx with rfl | hx
     · exact ⟨hi, in_of hk, hs, hh1, hw1, hk1, hh2, hw2⟩
     · exact alls_fit hk2 x hx
 | slice css hu h2 h3 ih =>
   refine ⟨fun e => (by subst e; rw [Tryz.underlying40] at hu; cases hu), fun e => ?_⟩
   subst e
   rw [Tryz.underlying38] at hu
   injection hu with hu
   injection hu with hu
   subst hu
   obtain ⟨L, h4, h5, h6⟩ : ∃ L : List Ut, css.map (elemI (aggT Tryz.prog 40)) = L.map uv ∧ L.length = css.length ∧ ∀ u ∈ L, Fit u := by
     clear h2
     induction css with
     | nil => exact ⟨[], rfl, rfl, fun _ h => by cases h⟩
     | cons cs l ih2 =>
       obtain ⟨u, g1, g2⟩ := (ih cs List.mem_cons_self).1 rfl
       obtain ⟨L, g3, g4, g5⟩ := ih2 (fun c hc => h3 c (List.mem_cons_of_mem _ hc)) (fun c hc => ih c (List.mem_cons_of_mem _ hc))
       refine ⟨u :: L, ?_, by simp [g4], fun x hx => ?_⟩
       · rw [List.map_cons, List.map_cons, g3, ← g1, agg_unit]
         rfl
       · rcases List.mem_cons.1 hx with rfl | hx
         · exact g2
         · exact g5 x hx
   exact ⟨L, by rw [c_unit, h4], by omega, h6⟩
theorem Fit.fits {u : Ut} (h : Fit u) : Fits u := fun x hx => by
 obtain ⟨_, _, _, h1, h2, h3, _⟩ := h x hx
 exact ⟨h1, h2, h3⟩
theorem agg_step : aggT Tryz.prog 81 = true := by kernel_rfl
theorem c_step : Tryz.prog.cellsOf 81 = 2 := by kernel_rfl
theorem step_of {is : List IV} (h : OkC Tryz.prog 81 is) : ∃ x : Stp, is = [.int .i64 x.kind, .str x.label] ∧ x.label.size ≤ maxLen := by
 obtain ⟨parts, rfl, hl, hp⟩ := h.strct_inv Tryz.underlying81
 match parts, hl with
 | [p0, p1], _ =>
   obtain ⟨k, rfl, _⟩ := (hp 0 _ _ rfl rfl).int_inv Tryz.underlying3
   obtain ⟨s, rfl, hs⟩ := (hp 1 _ _ rfl rfl).str_inv Tryz.underlying9
   exact ⟨⟨k, s⟩, rfl, hs⟩
theorem agg_str : aggT Tryz.prog 9 = false := by kernel_rfl
theorem agg_item : aggT Tryz.prog 43 = true := by kernel_rfl
theorem c_str : Tryz.prog.cellsOf 9 = 1 := by kernel_rfl
theorem c_item : Tryz.prog.cellsOf 43 = 25 := by kernel_rfl
theorem steps_of {is : List IV} (h : OkC Tryz.prog 34 is) : ∃ L : List Stp, is = [.sl 2 (L.map spv)] ∧ L.length ≤ maxLen := by
 obtain ⟨css, rfl, h2, h3⟩ := h.slice_inv Tryz.underlying34
 obtain ⟨L, h4, h5, _⟩ := elems_of (f := spv) (ok := fun _ => True) (fun cs hcs => by
   obtain ⟨x, rfl, hx⟩ := step_of hcs
   exact ⟨x, by rw [agg_step]; rfl, trivial⟩) css h3
 exact ⟨L, by rw [c_step, h4], by omega⟩
theorem strs_of {is : List IV} (h : OkC Tryz.prog 41 is) : ∃ L : List Str, is = [.sl 1 (L.map IV.str)] ∧ L.length ≤ maxLen := by
 obtain ⟨css, rfl, h2, h3⟩ := h.slice_inv Tryz.underlying41
 obtain ⟨L, h4, h5, _⟩ := elems_of (f := IV.str) (ok := fun _ => True) (fun cs hcs => by
   obtain ⟨x, rfl, hx⟩ := hcs.str_inv Tryz.underlying9
   exact ⟨x, by rw [agg_str]; rfl, trivial⟩) css h3
 exact ⟨L, by rw [c_str, h4], by omega⟩
theorem start_of3 {is : List IV} (h : OkC Tryz.prog 29 is) : ∃ (k d : Int) (e : Str), is = [.int .i64 k, .int .i64 d, .str e] := by
 obtain ⟨parts, rfl, hl, hp⟩ := h.strct_inv Tryz.underlying29
 match parts, hl with
 | [p0, p1, p2], _ =>
   obtain ⟨k, rfl, _⟩ := (hp 0 _ _ rfl rfl).int_inv Tryz.underlying3
   obtain ⟨d, rfl, _⟩ := (hp 1 _ _ rfl rfl).int_inv Tryz.underlying3
   obtain ⟨e, rfl, _⟩ := (hp 2 _ _ rfl rfl).str_inv Tryz.underlying9
   exact ⟨k, d, e, rfl⟩
theorem items_of3 {t : TypeId} {is : List IV} (h : OkC Tryz.prog t is) : (t = 43 → ∃ x : It, IV.agg is = itv x ∧ FitT x) ∧ (t = 30 → ∃ L : List It, is = [.sl 25 (L.map itv)] ∧ L.length ≤ maxLen ∧ ∀ x ∈ L, FitT x) := by
 induction h with
 | int hu _ => exact ⟨fun e => (by subst e; rw [Tryz.underlying43] at hu; cases hu), fun e => by subst e; rw [Tryz.underlying30] at hu; cases hu⟩
 | str hu _ => exact ⟨fun e => (by subst e; rw [Tryz.underlying43] at hu; cases hu), fun e => by subst e; rw [Tryz.underlying30] at hu; cases hu⟩
 | bool hu => exact ⟨fun e => (by subst e; rw [Tryz.underlying43] at hu; cases hu), fun e => by subst e; rw [Tryz.underlying30] at hu; cases hu⟩
 | strct parts hu hl hp ih =>
   refine ⟨fun e => ?_, fun e => by subst e; rw [Tryz.underlying30] at hu; cases hu⟩
   subst e
   rw [Tryz.underlying43] at hu
   injection hu with hu
   injection hu with hu
   subst hu
   match parts, hl with
   | [p0, p1, p2, p3, p4, p5, p6, p7, p8, p9, p10, p11, p12, p13, p14, p15], _ =>
     obtain ⟨kind, rfl, _⟩ := (hp 0 _ _ rfl rfl).int_inv Tryz.underlying3
     obtain ⟨p, rfl, hpl⟩ := steps_of (hp 1 _ _ rfl rfl)
     obtain ⟨q, rfl, hql⟩ := steps_of (hp 2 _ _ rfl rfl)
     obtain ⟨z, rfl, _⟩ := (hp 3 _ _ rfl rfl).int_inv Tryz.underlying3
     obtain ⟨nth, rfl, _⟩ := (hp 4 _ _ rfl rfl).int_inv Tryz.underlying3
     obtain ⟨u, hue, huf⟩ := (units_of (hp 5 _ _ rfl rfl)).1 rfl
     obtain ⟨old, rfl, hol⟩ := strs_of (hp 6 _ _ rfl rfl)
     obtain ⟨new, rfl, hnl⟩ := strs_of (hp 7 _ _ rfl rfl)
     obtain ⟨lb, rfl, _⟩ := (hp 8 _ _ rfl rfl).str_inv Tryz.underlying9
     obtain ⟨fr, rfl, _⟩ := (hp 9 _ _ rfl rfl).str_inv Tryz.underlying9
     obtain ⟨sk, sd, se, rfl⟩ := start_of3 (hp 10 _ _ rfl rfl)
     obtain ⟨a, rfl, _⟩ := (hp 11 _ _ rfl rfl).int_inv Tryz.underlying3
     obtain ⟨i, rfl, _⟩ := (hp 12 _ _ rfl rfl).int_inv Tryz.underlying3
     obtain ⟨d, rfl, _⟩ := (hp 13 _ _ rfl rfl).int_inv Tryz.underlying3
     obtain ⟨ev, rfl, _⟩ := (hp 14 _ _ rfl rfl).str_inv Tryz.underlying9
     obtain ⟨bys, rfl, hbl, hbf⟩ := (ih 15 _ _ rfl rfl).2 rfl
     rw [uv_eq] at hue
     injection hue with hue
     subst hue
     refine ⟨.mk kind p q z nth u old new lb fr sk sd se a i d ev bys, by rw [itv_eq]; rfl, .mk _ huf.fits ⟨hpl, hql, hol, hnl, hbl⟩ hbf⟩
 | slice css hu h2 h3 ih =>
   refine ⟨fun e => (by subst e; rw [Tryz.underlying43] at hu; cases hu), fun e => ?_⟩
   subst e
   rw [Tryz.underlying30] at hu
   injection hu with hu
   injection hu with hu
   subst hu
   obtain ⟨L, h4, h5, h6⟩ : ∃ L : List It, css.map (elemI (aggT Tryz.prog 43)) = L.map itv ∧ L.length = css.length ∧ ∀ u ∈ L, FitT u := by
     clear h2
     induction css with
     | nil => exact ⟨[], rfl, rfl, fun _ h => by cases h⟩
     | cons cs l ih2 =>
       obtain ⟨u, g1, g2⟩ := (ih cs List.mem_cons_self).1 rfl
       obtain ⟨L, g3, g4, g5⟩ := ih2 (fun c hc => h3 c (List.mem_cons_of_mem _ hc)) (fun c hc => ih c (List.mem_cons_of_mem _ hc))
       refine ⟨u :: L, ?_, by simp [g4], fun x hx => ?_⟩
       · rw [List.map_cons, List.map_cons, g3, ← g1, agg_item]
         rfl
       · rcases List.mem_cons.1 hx with rfl | hx
         · exact g2
         · exact g5 x hx
   exact ⟨L, by rw [c_item, h4], by omega, h6⟩
theorem agg_act : aggT Tryz.prog 32 = true := by kernel_rfl
theorem c_act : Tryz.prog.cellsOf 32 = 7 := by kernel_rfl
theorem agg_gz : aggT Tryz.prog 76 = true := by kernel_rfl
theorem c_gz : Tryz.prog.cellsOf 76 = 4 := by kernel_rfl
def FitA0 (a : Ac) : Prop := a.title.size ≤ maxLen ∧ a.se.size ≤ maxLen ∧ ∀ x ∈ a.items, FitT x
def FitG0 (g : Gz) : Prop := g.prior.size ≤ maxLen ∧ g.acts.length ≤ maxLen ∧ ∀ a ∈ g.acts, FitA0 a
theorem act_of {is : List IV} (h : OkC Tryz.prog 32 is) : ∃ a : Ac, IV.agg is = acv a ∧ FitA0 a := by
 obtain ⟨parts, rfl, hl, hp⟩ := h.strct_inv Tryz.underlying32
 match parts, hl with
 | [p0, p1, p2, p3, p4], _ =>
   obtain ⟨n, rfl, _⟩ := (hp 0 _ _ rfl rfl).int_inv Tryz.underlying3
   obtain ⟨t, rfl, ht⟩ := (hp 1 _ _ rfl rfl).str_inv Tryz.underlying9
   obtain ⟨d, rfl, _⟩ := (hp 2 _ _ rfl rfl).int_inv Tryz.underlying3
   obtain ⟨st, rfl, hs⟩ := start_of (hp 3 _ _ rfl rfl)
   obtain ⟨L, rfl, _, hL⟩ := (items_of3 (hp 4 _ _ rfl rfl)).2 rfl
   exact ⟨⟨n, t, d, st.k, st.d, st.e, L⟩, rfl, ht, hs, hL⟩
theorem acts_of {is : List IV} (h : OkC Tryz.prog 25 is) : ∃ L : List Ac, is = [.sl 7 (L.map acv)] ∧ L.length ≤ maxLen ∧ ∀ a ∈ L, FitA0 a := by
 obtain ⟨css, rfl, h2, h3⟩ := h.slice_inv Tryz.underlying25
 obtain ⟨L, h4, h5, h6⟩ := elems_of (f := acv) (ok := FitA0) (fun cs hcs => by rw [agg_act]; exact act_of hcs) css h3
 exact ⟨L, by rw [c_act, h4], by omega, h6⟩
theorem gz_of {is : List IV} (h : OkC Tryz.prog 76 is) : ∃ g : Gz, IV.agg is = gzv g ∧ FitG0 g := by
 obtain ⟨parts, rfl, hl, hp⟩ := h.strct_inv Tryz.underlying76
 match parts, hl with
 | [p0, p1, p2, p3], _ =>
   obtain ⟨n, rfl, _⟩ := (hp 0 _ _ rfl rfl).int_inv Tryz.underlying3
   obtain ⟨d, rfl, _⟩ := (hp 1 _ _ rfl rfl).int_inv Tryz.underlying3
   obtain ⟨s, rfl, hs⟩ := (hp 2 _ _ rfl rfl).str_inv Tryz.underlying9
   obtain ⟨L, rfl, hl, hL⟩ := acts_of (hp 3 _ _ rfl rfl)
   exact ⟨⟨n, d, s, L⟩, rfl, hs, hl, hL⟩
theorem gzs_of {is : List IV} (h : OkC Tryz.prog 22 is) : ∃ L : List Gz, is = [.sl 4 (L.map gzv)] ∧ L.length ≤ maxLen ∧ ∀ g ∈ L, FitG0 g := by
 obtain ⟨css, rfl, h2, h3⟩ := h.slice_inv Tryz.underlying22
 obtain ⟨L, h4, h5, h6⟩ := elems_of (f := gzv) (ok := FitG0) (fun cs hcs => by rw [agg_gz]; exact gz_of hcs) css h3
 exact ⟨L, by rw [c_gz, h4], by omega, h6⟩
theorem fit_gz {m : Nat} (hm : m ≤ 140737488355328) {g : Gz} (h : FitG0 g) (hs : szI m (gzv g)) : FitGz g := by
 unfold gzv szI at hs
 simp only [szL, szI] at hs
 obtain ⟨_, _, _, ⟨_, h4⟩, _⟩ := hs
 refine ⟨h.1, h.2.1, fun a ha => ?_⟩
 have h5 := szL_iff.1 h4 _ (List.mem_map_of_mem ha)
 unfold acv szI at h5
 simp only [szL, szI, List.length_map] at h5
 obtain ⟨_, _, _, _, _, _, ⟨h6, _⟩, _⟩ := h5
 obtain ⟨f1, f2, f3⟩ := h.2.2 a ha
 exact ⟨f1, f2, by omega, f3⟩
section
variable {H : Type} {enc : TypeId × Value → H} {w : World} {bs : Nat} {spare : Nat → Bool} {held : Bool}
def S2 : List TypeId := [3, 9, 36, 164, 166, 37, 40, 38, 81, 34, 41, 29, 43, 30, 32, 25, 76, 22]
theorem S2_ok : closed Tryz.prog S2 = true := by kernel_rfl
theorem slice_bytes {t e : TypeId} {a : Option Addr} {n c : Nat} {d : DataW H} {p : List MemPlace} {m : Nat} (hu : Tryz.prog.underlying t = some (.slice e)) (h : ∃ fuel, DataW.trod enc Tryz.prog w bs spare held fuel t (Value.slice a n c).cells.toList = some (d, p)) (hm : ∀ k ∈ d.weights Tryz.prog t, k ≤ m) : n * Tryz.prog.bytesOf e ≤ m := by
 obtain ⟨fuel, hf⟩ := h
 rcases DataW.trod_slice hu hf with ⟨h1, _⟩ | ⟨a', len, cap, elems, rest, k, _, h1, hx, _, _, _, hel, _⟩
 · simp only [Value.cells] at h1
   injection h1 with h1
   injection h1 with _ h1
   subst h1
   omega
 · simp only [Value.cells] at h1
   injection h1 with h1
   injection h1 with _ h1
   injection hx with hx _
   have := hm ((elems.length + rest.length) * Tryz.prog.bytesOf e) (by rw [hx]; simp [DataW.weights, hu])
   subst h1
   refine Nat.le_trans (Nat.mul_le_mul_right _ ?_) this
   omega
def FitL (L : List Gz) : Prop := L.length * 56 ≤ 140737488351232 ∧ ∀ g ∈ L, FitGz g
theorem gzsW_open {a : Option Addr} {n c : Nat} {d : DataW H} {p : List MemPlace} (h : ∃ fuel, DataW.trod enc Tryz.prog w bs spare held fuel 22 (Value.slice a n c).cells.toList = some (d, p)) (hm : ∀ k ∈ d.weights Tryz.prog 22, k ≤ reachBytes) :
   ∃ L : List Gz, RepI (fun b => b < w.heap.size) w (.sl 4 (L.map gzv)) (.slice a n c) ∧ FitL L := by
 obtain ⟨fuel, hf⟩ := h
 obtain ⟨is, h1, h2, h3⟩ := open_cellsW S2_ok fuel 22 _ _ (by decide) hf
 obtain ⟨L, rfl, h4, h5⟩ := gzs_of h2
 have hs := h3 reachBytes hm
 simp only [szL, szI] at hs
 have hrep : RepI (fun b => b < w.heap.size) w (.sl 4 (L.map gzv)) (.slice a n c) := by
   unfold RepC at h1
   obtain ⟨v, r, e1, _, e3, _⟩ := h1
   have : v = .slice a n c := by
     have := congrArg List.head? e1
     simpa [Value.cells] using this.symm
   rw [← this]
   exact e3
 refine ⟨L, hrep, ?_, fun g hg => fit_gz (m := reachBytes) (by decide) (h5 g hg) (szL_iff.1 hs.1.2 _ (List.mem_map_of_mem hg))⟩
 have hb := slice_bytes Tryz.underlying22 ⟨fuel, hf⟩ hm
 have hl : n = L.length := by
   unfold RepI at hrep
   obtain ⟨_, _, e, _⟩ := hrep
   injection e with _ e
   simpa using e
 rw [hl, show Tryz.prog.bytesOf 76 = 56 by kernel_rfl] at hb
 exact Nat.le_trans hb (by decide)
end
end Go.Proofs.YtglkpmhamekpmaaGreat.Po
