/-
  The law of TargetFind. Arguments that came in: units, steps, IDs.
-/
import Derived.Test.YtiohjjgncbhimaaDoorWKg
import Derived.Test.YtiohjjgncbhimaaDoorWAm
namespace Go.Proofs.YtiohjjgncbhimaaDoor.Pk
open Go Go.Pv Go.RowKit Go.Proofs.YtiohjjgncbhimaaDoor.Pu Go.Proofs.YtiohjjgncbhimaaDoor.Pa Go.Proofs.YtiohjjgncbhimaaDoor.Pb
set_option linter.unusedSimpArgs false
open Lab Lcs Go.Proofs.YtiohjjgncbhimaaDoor
set_option maxRecDepth 10000
set_option maxHeartbeats 16000000
theorem find21_pc (u : Ut) (x : It) (hc : u.count ≤ 10000) (hp : ∀ s ∈ x.p, shortS s) : PC Tryd.prog envU 10 [uv u, itv x] [idv (oneA u x.p).1, .int .i64 (oneA u x.p).2] := by
 have hO := findOne_pc u x.p hc hp
 have hue := uv_eq u
 generalize oneA u x.p = o at hO ⊢
 rw [itv_eq x]
 rw [hue] at hO ⊢
 unfold idv idl at *
 refine PC.of_va (T := tb0) eqs2_ok tb_ok rfl mixed Tryd.func10 rfl rfl (Nat.le_of_ble_eq_true rfl) ?_; intro Γ C WK LP fin h0 hW hC hB hR hLP hfin
 (try (conv => whnf)); (repeat ((first | refine qT ?_ | refine qF ?_ | refine qO ?_ | (with_reducible intro z hz); (first | (replace hz := hz (by omega); subst hz) | subst hz) | (refine CallV.mk _ (hC _ _ _ (PCw.of hO)) (fun js hjs => ?_); subst hjs)); (try (conv => whnf))))
 exact hfin _ (ILes.refl _)
theorem findAll21_pc (u : Ut) (p : List Stp) (hc : u.count ≤ 10000) (hp : ∀ s ∈ p, shortS s) : PC Tryd.prog envU 13 [uv u, .sl 2 (p.map spv)] [.sl 3 ((findA u p).map idv)] := by
 have hO := findAll_pc u p hc hp
 have hue := uv_eq u
 generalize findA u p = o at hO ⊢
 rw [hue] at hO ⊢
 refine PC.of_va (T := tb0) eqs2_ok tb_ok rfl mixed Tryd.func13 rfl rfl (Nat.le_of_ble_eq_true rfl) ?_; intro Γ C WK LP fin h0 hW hC hB hR hLP hfin
 (try (conv => whnf)); (repeat ((first | refine qT ?_ | refine qF ?_ | refine qO ?_ | (with_reducible intro z hz); (first | (replace hz := hz (by omega); subst hz) | subst hz) | (refine CallV.mk _ (hC _ _ _ (PCw.of hO)) (fun js hjs => ?_); subst hjs)); (try (conv => whnf))))
 exact hfin _ (ILes.refl _)
theorem findA_len {u : Ut} (p : List Stp) (hc : u.count ≤ 10000) : (findA u p).length ≤ 100000000 := by
 unfold findA
 rw [List.length_map]
 exact units_len p hc
theorem lawFind (u : Ut) (x : It) (hok : okU u) (hx : FitI x) : PC Tryd.prog envU 3 [uv u, itv x] [.bool true] := by
 have hA := awake_pc
 have hK := book_pc u hok
 have hF := few17_pc x hx
 have hue := uv_eq u
 have hxe := itv_eq x
 cases hb : bookL u
 · rw [hb] at hK
   rw [hue] at hK ⊢
   rw [hxe]
   refine PC.of_va (T := tb0) eqs2_ok tb_ok rfl mixed Tryd.func3 rfl rfl (Nat.le_of_ble_eq_true rfl) ?_; intro Γ C WK LP fin h0 hW hC hB hR hLP hfin
   (try (conv => whnf)); (repeat ((first | refine qT ?_ | refine qF ?_ | refine qO ?_ | (with_reducible intro z hz); (first | (replace hz := hz (by omega); subst hz) | subst hz) | (refine CallV.mk _ (hC _ _ _ (PCw.of hA)) (fun js hjs => ?_); subst hjs) | (refine CallV.mk _ (hC _ _ _ (PCw.of hK)) (fun js hjs => ?_); subst hjs)); (try (conv => whnf))))
   exact hfin _ (ILes.refl _)
 rw [hb] at hK
 cases hf : fewI x
 · rw [hf] at hF
   rw [hue] at hK ⊢
   rw [hxe] at hF ⊢
   refine PC.of_va (T := tb0) eqs2_ok tb_ok rfl mixed Tryd.func3 rfl rfl (Nat.le_of_ble_eq_true rfl) ?_; intro Γ C WK LP fin h0 hW hC hB hR hLP hfin
   (try (conv => whnf)); (repeat ((first | refine qT ?_ | refine qF ?_ | refine qO ?_ | (with_reducible intro z hz); (first | (replace hz := hz (by omega); subst hz) | subst hz) | (refine CallV.mk _ (hC _ _ _ (PCw.of hA)) (fun js hjs => ?_); subst hjs) | (refine CallV.mk _ (hC _ _ _ (PCw.of hK)) (fun js hjs => ?_); subst hjs) | (refine CallV.mk _ (hC _ _ _ (PCw.of hF)) (fun js hjs => ?_); subst hjs)); (try (conv => whnf))))
   exact hfin _ (ILes.refl _)
 rw [hf] at hF
 obtain ⟨hc, _, hs, _⟩ := bookL_facts hb
 have hsp := (few_at hf).1
 have h1 := find21_pc u x (by omega) hsp
 have h2 := one7_pc u x.p (by omega) hsp
 have h3 := findAll21_pc u x.p (by omega) hsp
 have h4 := all7_pc u x.p (by omega) hsp
 have h5 := ids7_pc (findA u x.p) (findA u x.p) (findA_len x.p (by omega))
 rw [decide_eq_true rfl] at h5
 generalize findA u x.p = l at h3 h4 h5
 generalize oneA u x.p = q at h1 h2
 have hi := id_eq (rfl : q.1 = q.1)
 unfold idv idl at h1 h2
 rw [hue] at hK h1 h2 h3 h4 ⊢
 rw [hxe] at hF h1 ⊢
 refine PC.of_va (T := tb0) eqs2_ok tb_ok rfl mixed Tryd.func3 rfl rfl (Nat.le_of_ble_eq_true rfl) ?_; intro Γ C WK LP fin h0 hW hC hB hR hLP hfin
 (try (conv => whnf)); (repeat ((first | refine qT ?_ | refine qF ?_ | refine qO ?_ | (with_reducible intro z hz); (first | (replace hz := hz (by omega); subst hz) | subst hz) | (refine CallV.mk _ (hC _ _ _ (PCw.of hA)) (fun js hjs => ?_); subst hjs) | (refine CallV.mk _ (hC _ _ _ (PCw.of hK)) (fun js hjs => ?_); subst hjs) | (refine CallV.mk _ (hC _ _ _ (PCw.of hF)) (fun js hjs => ?_); subst hjs) | (refine CallV.mk _ (hC _ _ _ (PCw.of h1)) (fun js hjs => ?_); subst hjs) | (refine CallV.mk _ (hC _ _ _ (PCw.of h2)) (fun js hjs => ?_); subst hjs) | (refine CallV.mk _ (hC _ _ _ (PCw.of h3)) (fun js hjs => ?_); subst hjs) | (refine CallV.mk _ (hC _ _ _ (PCw.of h4)) (fun js hjs => ?_); subst hjs) | (refine CallV.mk _ (hC _ _ _ (PCw.of h5)) (fun js hjs => ?_); subst hjs)); (try (conv => whnf))))
 exact hfin _ (ILes.refl _)
end Go.Proofs.YtiohjjgncbhimaaDoor.Pk
namespace Go.Proofs.YtiohjjgncbhimaaDoor.Pa
open Go Go.Pv Go.Proofs.YtiohjjgncbhimaaDoor.Pu
set_option linter.unusedSimpArgs false
open Lab Lcs Go.Proofs.YtiohjjgncbhimaaDoor Go.RowKit
set_option maxRecDepth 100000
def S0 : List TypeId := [3, 9, 23, 83, 85, 24, 27, 25, 59, 28]
theorem S0_ok : closed Tryd.prog S0 = true := by kernel_rfl
theorem agg_step : aggT Tryd.prog 59 = true := by kernel_rfl
theorem agg_word : aggT Tryd.prog 85 = true := by kernel_rfl
theorem agg_unit : aggT Tryd.prog 27 = true := by kernel_rfl
theorem c_step : Tryd.prog.cellsOf 59 = 2 := by kernel_rfl
theorem c_word : Tryd.prog.cellsOf 85 = 4 := by kernel_rfl
theorem c_unit : Tryd.prog.cellsOf 27 = 8 := by kernel_rfl
theorem in_of {z : Int} (hw : (Lit.int .i64 z).wf = true) : inI z := by simpa [inI, Lit.wf, IntKind.min, IntKind.max, IntKind.signed, IntKind.bits] using hw
theorem three_of {is : List IV} {t : TypeId} {fs : Array Field} (hu : Tryd.prog.underlying t = some (.struct fs)) (hf : fs.toList.map Field.type = [3, 3, 3]) (h : OkC Tryd.prog t is) : ∃ x : Trip, is = idl x ∧ x.ok := by
 obtain ⟨parts, rfl, hl, hp⟩ := h.strct_inv hu
 have hs : fs.size = 3 := by have := congrArg List.length hf; simpa using this
 rw [hs] at hl
 have hty : ∀ i, i < 3 → ∃ f, fs[i]? = some f ∧ f.type = 3 := by
   intro i hi
   have h1 := congrArg (·[i]?) hf
   simp only [List.getElem?_map, Array.getElem?_toList] at h1
   cases hfi : fs[i]? with
   | none => rw [Array.getElem?_eq_none_iff] at hfi; omega
   | some f =>
     rw [hfi] at h1
     refine ⟨f, rfl, ?_⟩
     match i, hi with
     | 0, _ => simpa using h1
     | 1, _ => simpa using h1
     | 2, _ => simpa using h1
 match parts, hl with
 | [p0, p1, p2], _ =>
   obtain ⟨f0, e0, t0⟩ := hty 0 (by decide)
   obtain ⟨f1, e1, t1⟩ := hty 1 (by decide)
   obtain ⟨f2, e2, t2⟩ := hty 2 (by decide)
   have h0 := hp 0 f0 p0 e0 rfl
   have h1 := hp 1 f1 p1 e1 rfl
   have h2 := hp 2 f2 p2 e2 rfl
   rw [t0] at h0
   rw [t1] at h1
   rw [t2] at h2
   obtain ⟨z0, rfl, g0⟩ := h0.int_inv Tryd.underlying3
   obtain ⟨z1, rfl, g1⟩ := h1.int_inv Tryd.underlying3
   obtain ⟨z2, rfl, g2⟩ := h2.int_inv Tryd.underlying3
   exact ⟨⟨z0, z1, z2⟩, rfl, in_of g0, in_of g1, in_of g2⟩
theorem id_of {is : List IV} (h : OkC Tryd.prog 23 is) : ∃ x : Trip, is = idl x ∧ x.ok := three_of Tryd.underlying23 rfl h
theorem mark_of {is : List IV} (h : OkC Tryd.prog 83 is) : ∃ x : Trip, is = idl x ∧ x.ok := three_of Tryd.underlying83 rfl h
theorem step_of {is : List IV} (h : OkC Tryd.prog 59 is) : ∃ x : Stp, is = spl x ∧ (inI x.kind ∧ x.label.size ≤ maxLen) := by
 obtain ⟨parts, rfl, hl, hp⟩ := h.strct_inv Tryd.underlying59
 match parts, hl with
 | [p0, p1], _ =>
   obtain ⟨z0, rfl, hz⟩ := (hp 0 _ _ rfl rfl).int_inv Tryd.underlying3
   obtain ⟨s, rfl, hs⟩ := (hp 1 _ _ rfl rfl).str_inv Tryd.underlying9
   exact ⟨⟨z0, s⟩, rfl, in_of hz, hs⟩
def okWd (a : Wd) : Prop := a.text.size ≤ maxLen ∧ a.mark.ok
theorem word_of {is : List IV} (h : OkC Tryd.prog 85 is) : ∃ a : Wd, IV.agg is = wdv a ∧ okWd a := by
 obtain ⟨parts, rfl, hl, hp⟩ := h.strct_inv Tryd.underlying85
 match parts, hl with
 | [p0, p1], _ =>
   obtain ⟨s, rfl, hs⟩ := (hp 0 _ _ rfl rfl).str_inv Tryd.underlying9
   obtain ⟨t, rfl, ht⟩ := mark_of (hp 1 _ _ rfl rfl)
   exact ⟨⟨s, t⟩, rfl, hs, ht⟩
theorem words_of {is : List IV} (h : OkC Tryd.prog 24 is) : ∃ L : List Wd, is = [.sl 4 (L.map wdv)] ∧ L.length ≤ maxLen ∧ ∀ a ∈ L, okWd a := by
 obtain ⟨css, rfl, h2, h3⟩ := h.slice_inv Tryd.underlying24
 obtain ⟨L, h4, h5, h6⟩ := elems_of (f := wdv) (ok := okWd) (fun cs hcs => by rw [agg_word]; exact word_of hcs) css h3
 exact ⟨L, by rw [c_word, h4], by omega, h6⟩
def fitU (x : Ut) : Prop := x.id.ok ∧ inI x.kind ∧ x.label.size ≤ maxLen ∧ x.head.length ≤ maxLen ∧ x.words.length ≤ maxLen ∧ x.kids.length ≤ maxLen ∧ (∀ a ∈ x.head, okWd a) ∧ ∀ a ∈ x.words, okWd a
def Fit (u : Ut) : Prop := ∀ x ∈ u.all, fitU x
theorem Fit.ok {u : Ut} (h : Fit u) : okU u := fun x hx => ⟨(h x hx).1, (h x hx).2.1⟩
theorem alls_fit : ∀ {l : List Ut}, (∀ u ∈ l, Fit u) → ∀ x ∈ Ut.alls l, fitU x
 | [], _, x, hx => by simp [Ut.alls] at hx
 | a :: l, h, x, hx => by
   unfold Ut.alls at hx
   rcases List.mem_append.1 hx with hx | hx
   · exact h a List.mem_cons_self x hx
   · exact alls_fit (fun u hu => h u (List.mem_cons_of_mem _ hu)) x hx
theorem units_of {t : TypeId} {is : List IV} (h : OkC Tryd.prog t is) : (t = 27 → ∃ u : Ut, IV.agg is = uv u ∧ Fit u) ∧ (t = 25 → ∃ L : List Ut, is = [.sl 8 (L.map uv)] ∧ L.length ≤ maxLen ∧ ∀ u ∈ L, Fit u) := by
 induction h with
 | int hu _ => exact ⟨fun e => (by subst e; rw [Tryd.underlying27] at hu; cases hu), fun e => by subst e; rw [Tryd.underlying25] at hu; cases hu⟩
 | str hu _ => exact ⟨fun e => (by subst e; rw [Tryd.underlying27] at hu; cases hu), fun e => by subst e; rw [Tryd.underlying25] at hu; cases hu⟩
 | bool hu => exact ⟨fun e => (by subst e; rw [Tryd.underlying27] at hu; cases hu), fun e => by subst e; rw [Tryd.underlying25] at hu; cases hu⟩
 | strct parts hu hl hp ih =>
   refine ⟨fun e => ?_, fun e => by subst e; rw [Tryd.underlying25] at hu; cases hu⟩
   subst e
   rw [Tryd.underlying27] at hu
   injection hu with hu
   injection hu with hu
   subst hu
   match parts, hl with
   | [p0, p1, p2, p3, p4, p5], _ =>
     obtain ⟨i, rfl, hi⟩ := id_of (hp 0 _ _ rfl rfl)
     obtain ⟨k, rfl, hk⟩ := (hp 1 _ _ rfl rfl).int_inv Tryd.underlying3
     obtain ⟨s, rfl, hs⟩ := (hp 2 _ _ rfl rfl).str_inv Tryd.underlying9
     obtain ⟨hd, rfl, hh1, hh2⟩ := words_of (hp 3 _ _ rfl rfl)
     obtain ⟨wd, rfl, hw1, hw2⟩ := words_of (hp 4 _ _ rfl rfl)
     obtain ⟨ks, rfl, hk1, hk2⟩ := (ih 5 _ _ rfl rfl).2 rfl
     refine ⟨.mk i k s hd wd ks, by rw [uv_mk]; rfl, fun x hx => ?_⟩
     rw [all_mk] at hx
     rcases List.mem_cons.1 hx with rfl | hx
     · exact ⟨hi, in_of hk, hs, hh1, hw1, hk1, hh2, hw2⟩
     · exact alls_fit hk2 x hx
 | slice css hu h2 h3 ih =>
   refine ⟨fun e => (by subst e; rw [Tryd.underlying27] at hu; cases hu), fun e => ?_⟩
   subst e
   rw [Tryd.underlying25] at hu
   injection hu with hu
   injection hu with hu
   subst hu
   obtain ⟨L, h4, h5, h6⟩ : ∃ L : List Ut, css.map (elemI (aggT Tryd.prog 27)) = L.map uv ∧ L.length = css.length ∧ ∀ u ∈ L, Fit u := by
     clear h2
     induction css with
     | nil => exact ⟨[], rfl, rfl, fun _ h => by cases h⟩
     | cons cs l ih2 =>
       obtain ⟨u, g1, g2⟩ := (ih cs List.mem_cons_self).1 rfl
       obtain ⟨L, g3, g4, g5⟩ := ih2 (fun c hc => h3 c (List.mem_cons_of_mem _ hc)) (fun c hc => ih c (List.mem_cons_of_mem _ hc))
       refine ⟨u :: L, ?_, by simp [g4], fun x hx => ?_⟩
       · rw [List.map_cons, List.map_cons, g3, ← g1, agg_unit]
         rfl
       · rcases List.mem_cons.1 hx with rfl | hx
         · exact g2
         · exact g5 x hx
   exact ⟨L, by rw [c_unit, h4], by omega, h6⟩
section
variable {H : Type} {enc : TypeId × Value → H} {w : World} {bs : Nat} {spare : Nat → Bool} {held : Bool}
theorem steps_open {a : Option Addr} {n c : Nat} {d : DataW H} {p : List MemPlace} (h : ∃ fuel, DataW.trod enc Tryd.prog w bs spare held fuel 28 (Value.slice a n c).cells.toList = some (d, p)) :
   ∃ L : List Stp, RepI (fun b => b < w.heap.size) w (.sl 2 (L.map spv)) (.slice a n c) ∧ L.length ≤ maxLen ∧ ∀ s ∈ L, inI s.kind ∧ s.label.size ≤ maxLen := by
 obtain ⟨css, h1, h2, h3⟩ := open_sl S0_ok (by decide) Tryd.underlying28 h
 obtain ⟨L, h4, h5, h6⟩ := elems_of (f := spv) (ok := fun s : Stp => inI s.kind ∧ s.label.size ≤ maxLen) (fun cs hcs => by
   obtain ⟨x, rfl, hx⟩ := step_of hcs
   exact ⟨x, by rw [agg_step]; rfl, hx⟩) css h3
 rw [h4, c_step] at h1
 exact ⟨L, h1, by omega, h6⟩
theorem unit_open {cs : Array Value} {d : DataW H} {p : List MemPlace} (_hs : cs.size = Tryd.prog.cellsOf 27) (h : ∃ fuel, DataW.trod enc Tryd.prog w bs spare held fuel 27 cs.toList = some (d, p)) :
   ∃ u : Ut, RepI (fun b => b < w.heap.size) w (uv u) (.agg cs) ∧ Fit u := by
 obtain ⟨fuel, h⟩ := h
 obtain ⟨is, h1, h2⟩ := open_cells S0_ok fuel 27 cs.toList _ (by decide) h
 obtain ⟨u, h3, h4⟩ := (units_of h2).1 rfl
 refine ⟨u, ?_, h4⟩
 rw [← h3, RepI_agg]
 exact ⟨_, by simp, h1⟩
end
end Go.Proofs.YtiohjjgncbhimaaDoor.Pa
