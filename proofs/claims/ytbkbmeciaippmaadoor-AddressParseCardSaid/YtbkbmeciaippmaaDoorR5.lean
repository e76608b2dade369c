/-
  Arguments that came in: units, steps, IDs. The reference's few, Few: the budget of units. Full: its closure, visit with it, Full; Shortest. awake: the chapter's example.
-/
import Derived.Test.YtbkbmeciaippmaaDoorR3
import Derived.Test.YtbkbmeciaippmaaDoorR4
import Derived.Test.YtbkbmeciaippmaaDoorP7
namespace Go.Proofs.YtbkbmeciaippmaaDoor.Pa
open Go Go.Pv Go.Proofs.YtbkbmeciaippmaaDoor.Pu
set_option linter.unusedSimpArgs false
open Lab Lcs Go.Proofs.YtbkbmeciaippmaaDoor Go.RowKit
set_option maxRecDepth 100000
def S0 : List TypeId := [3, 9, 23, 47, 49, 24, 27, 25, 72, 52]
theorem S0_ok : closed Tryd.prog S0 = true := by kernel_rfl
theorem agg_step : aggT Tryd.prog 72 = true := by kernel_rfl
theorem agg_word : aggT Tryd.prog 49 = true := by kernel_rfl
theorem agg_unit : aggT Tryd.prog 27 = true := by kernel_rfl
theorem c_step : Tryd.prog.cellsOf 72 = 2 := by kernel_rfl
theorem c_word : Tryd.prog.cellsOf 49 = 4 := by kernel_rfl
theorem c_unit : Tryd.prog.cellsOf 27 = 8 := by kernel_rfl
theorem in_of {z : Int} (hw : (Lit.int .i64 z).wf = true) : inI z := by simpa [inI, Lit.wf, IntKind.min, IntKind.max, IntKind.signed, IntKind.bits] using hw
theorem three_of {is : List IV} {t : TypeId} {fs : Array Field} (hu : Tryd.prog.underlying t = some (.struct fs)) (hf : fs.toList.map Field.type = [3, 3, 3]) (h : OkC Tryd.prog t is) : ∃ x : Trip, is = idl x ∧ x.ok := by
  obtain ⟨parts, rfl, hl, hp⟩ := h.strct_inv hu
  have hs : fs.size = 3 := by have := congrArg List.length hf; simpa using this
  rw [hs] at hl
  have hty : ∀ i, i < 3 → ∃ f, fs[i]? = some f ∧ f.type = 3 := by
    intro i hi
    have h1 := congrArg (·[i]?) hf
    simp only [List.getElem?_map, Array.getElem?_toList] at h1
    cases hfi : fs[i]? with
    | none => rw [Array.getElem?_eq_none_iff] at hfi; omega
    | some f =>
      rw [hfi] at h1
      refine ⟨f, rfl, ?_⟩
      match i, hi with
      | 0, _ => simpa using h1
      | 1, _ => simpa using h1
      | 2, _ => simpa using h1
  match parts, hl with
  | [p0, p1, p2], _ =>
    obtain ⟨f0, e0, t0⟩ := hty 0 (by decide)
    obtain ⟨f1, e1, t1⟩ := hty 1 (by decide)
    obtain ⟨f2, e2, t2⟩ := hty 2 (by decide)
    have h0 := hp 0 f0 p0 e0 rfl
    have h1 := hp 1 f1 p1 e1 rfl
    have h2 := hp 2 f2 p2 e2 rfl
    rw [t0] at h0
    rw [t1] at h1
    rw [t2] at h2
    obtain ⟨z0, rfl, g0⟩ := h0.int_inv Tryd.underlying3
    obtain ⟨z1, rfl, g1⟩ := h1.int_inv Tryd.underlying3
    obtain ⟨z2, rfl, g2⟩ := h2.int_inv Tryd.underlying3
    exact ⟨⟨z0, z1, z2⟩, rfl, in_of g0, in_of g1, in_of g2⟩
theorem id_of {is : List IV} (h : OkC Tryd.prog 23 is) : ∃ x : Trip, is = idl x ∧ x.ok := three_of Tryd.underlying23 rfl h
theorem mark_of {is : List IV} (h : OkC Tryd.prog 47 is) : ∃ x : Trip, is = idl x ∧ x.ok := three_of Tryd.underlying47 rfl h
theorem step_of {is : List IV} (h : OkC Tryd.prog 72 is) : ∃ x : Stp, is = spl x ∧ (inI x.kind ∧ x.label.size ≤ maxLen) := by
  obtain ⟨parts, rfl, hl, hp⟩ := h.strct_inv Tryd.underlying72
  match parts, hl with
  | [p0, p1], _ =>
    obtain ⟨z0, rfl, hz⟩ := (hp 0 _ _ rfl rfl).int_inv Tryd.underlying3
    obtain ⟨s, rfl, hs⟩ := (hp 1 _ _ rfl rfl).str_inv Tryd.underlying9
    exact ⟨⟨z0, s⟩, rfl, in_of hz, hs⟩
def okWd (a : Wd) : Prop := a.text.size ≤ maxLen ∧ a.mark.ok
theorem word_of {is : List IV} (h : OkC Tryd.prog 49 is) : ∃ a : Wd, IV.agg is = wdv a ∧ okWd a := by
  obtain ⟨parts, rfl, hl, hp⟩ := h.strct_inv Tryd.underlying49
  match parts, hl with
  | [p0, p1], _ =>
    obtain ⟨s, rfl, hs⟩ := (hp 0 _ _ rfl rfl).str_inv Tryd.underlying9
    obtain ⟨t, rfl, ht⟩ := mark_of (hp 1 _ _ rfl rfl)
    exact ⟨⟨s, t⟩, rfl, hs, ht⟩
theorem words_of {is : List IV} (h : OkC Tryd.prog 24 is) : ∃ L : List Wd, is = [.sl 4 (L.map wdv)] ∧ L.length ≤ maxLen ∧ ∀ a ∈ L, okWd a := by
  obtain ⟨css, rfl, h2, h3⟩ := h.slice_inv Tryd.underlying24
  obtain ⟨L, h4, h5, h6⟩ := elems_of (f := wdv) (ok := okWd) (fun cs hcs => by rw [agg_word]; exact word_of hcs) css h3
  exact ⟨L, by rw [c_word, h4], by omega, h6⟩
/-- What is known of a tree that came in. -/
def fitU (x : Ut) : Prop := x.id.ok ∧ inI x.kind ∧ x.label.size ≤ maxLen ∧ x.head.length ≤ maxLen ∧ x.words.length ≤ maxLen ∧ x.kids.length ≤ maxLen ∧ (∀ a ∈ x.head, okWd a) ∧ ∀ a ∈ x.words, okWd a
def Fit (u : Ut) : Prop := ∀ x ∈ u.all, fitU x
theorem Fit.ok {u : Ut} (h : Fit u) : okU u := fun x hx => ⟨(h x hx).1, (h x hx).2.1⟩
theorem Fit.self {u : Ut} (h : Fit u) : fitU u := h u (by rw [Ut.all_eq]; exact List.mem_cons_self)
theorem Fit.kid {u k : Ut} (h : Fit u) (hk : k ∈ u.kids) : Fit k := fun x hx => h x (by
  rw [Ut.all_eq]
  refine List.mem_cons_of_mem _ ?_
  clear h
  generalize u.kids = l at hk
  induction l with
  | nil => cases hk
  | cons a l ih =>
    unfold Ut.alls
    rcases List.mem_cons.1 hk with rfl | hk
    · exact List.mem_append_left _ hx
    · exact List.mem_append_right _ (ih hk))
theorem alls_fit : ∀ {l : List Ut}, (∀ u ∈ l, Fit u) → ∀ x ∈ Ut.alls l, fitU x
  | [], _, x, hx => by simp [Ut.alls] at hx
  | a :: l, h, x, hx => by
    unfold Ut.alls at hx
    rcases List.mem_append.1 hx with hx | hx
    · exact h a List.mem_cons_self x hx
    · exact alls_fit (fun u hu => h u (List.mem_cons_of_mem _ hu)) x hx
theorem units_of {t : TypeId} {is : List IV} (h : OkC Tryd.prog t is) : (t = 27 → ∃ u : Ut, IV.agg is = uv u ∧ Fit u) ∧ (t = 25 → ∃ L : List Ut, is = [.sl 8 (L.map uv)] ∧ L.length ≤ maxLen ∧ ∀ u ∈ L, Fit u) := by
  induction h with
  | int hu _ => exact ⟨fun e => (by subst e; rw [Tryd.underlying27] at hu; cases hu), fun e => by subst e; rw [Tryd.underlying25] at hu; cases hu⟩
  | str hu _ => exact ⟨fun e => (by subst e; rw [Tryd.underlying27] at hu; cases hu), fun e => by subst e; rw [Tryd.underlying25] at hu; cases hu⟩
  | bool hu => exact ⟨fun e => (by subst e; rw [Tryd.underlying27] at hu; cases hu), fun e => by subst e; rw [Tryd.underlying25] at hu; cases hu⟩
  | strct parts hu hl hp ih =>
    refine ⟨fun e => ?_, fun e => by subst e; rw [Tryd.underlying25] at hu; cases hu⟩
    subst e
    rw [Tryd.underlying27] at hu
    injection hu with hu
    injection hu with hu
    subst hu
    match parts, hl with
    | [p0, p1, p2, p3, p4, p5], _ =>
      obtain ⟨i, rfl, hi⟩ := id_of (hp 0 _ _ rfl rfl)
      obtain ⟨k, rfl, hk⟩ := (hp 1 _ _ rfl rfl).int_inv Tryd.underlying3
      obtain ⟨s, rfl, hs⟩ := (hp 2 _ _ rfl rfl).str_inv Tryd.underlying9
      obtain ⟨hd, rfl, hh1, hh2⟩ := words_of (hp 3 _ _ rfl rfl)
      obtain ⟨wd, rfl, hw1, hw2⟩ := words_of (hp 4 _ _ rfl rfl)
      obtain ⟨ks, rfl, hk1, hk2⟩ := (ih 5 _ _ rfl rfl).2 rfl
      refine ⟨.mk i k s hd wd ks, by rw [uv_mk]; rfl, fun x hx => ?_⟩
      rw [all_mk] at hx
      rcases List.mem_cons.1 hx with rfl | hx
      · exact ⟨hi, in_of hk, hs, hh1, hw1, hk1, hh2, hw2⟩
      · exact alls_fit hk2 x hx
  | slice css hu h2 h3 ih =>
    refine ⟨fun e => (by subst e; rw [Tryd.underlying27] at hu; cases hu), fun e => ?_⟩
    subst e
    rw [Tryd.underlying25] at hu
    injection hu with hu
    injection hu with hu
    subst hu
    obtain ⟨L, h4, h5, h6⟩ : ∃ L : List Ut, css.map (elemI (aggT Tryd.prog 27)) = L.map uv ∧ L.length = css.length ∧ ∀ u ∈ L, Fit u := by
      clear h2
      induction css with
      | nil => exact ⟨[], rfl, rfl, fun _ h => by cases h⟩
      | cons cs l ih2 =>
        obtain ⟨u, g1, g2⟩ := (ih cs List.mem_cons_self).1 rfl
        obtain ⟨L, g3, g4, g5⟩ := ih2 (fun c hc => h3 c (List.mem_cons_of_mem _ hc)) (fun c hc => ih c (List.mem_cons_of_mem _ hc))
        refine ⟨u :: L, ?_, by simp [g4], fun x hx => ?_⟩
        · rw [List.map_cons, List.map_cons, g3, ← g1, agg_unit]
          rfl
        · rcases List.mem_cons.1 hx with rfl | hx
          · exact g2
          · exact g5 x hx
    exact ⟨L, by rw [c_unit, h4], by omega, h6⟩
section
variable {H : Type} {enc : TypeId × Value → H} {w : World} {bs : Nat} {spare : Nat → Bool} {held : Bool}
theorem steps_open {a : Option Addr} {n c : Nat} {d : DataW H} {p : List MemPlace} (h : ∃ fuel, DataW.trod enc Tryd.prog w bs spare held fuel 52 (Value.slice a n c).cells.toList = some (d, p)) :
    ∃ L : List Stp, RepI (fun b => b < w.heap.size) w (.sl 2 (L.map spv)) (.slice a n c) ∧ L.length ≤ maxLen ∧ ∀ s ∈ L, inI s.kind ∧ s.label.size ≤ maxLen := by
  obtain ⟨css, h1, h2, h3⟩ := open_sl S0_ok (by decide) Tryd.underlying52 h
  obtain ⟨L, h4, h5, h6⟩ := elems_of (f := spv) (ok := fun s : Stp => inI s.kind ∧ s.label.size ≤ maxLen) (fun cs hcs => by
    obtain ⟨x, rfl, hx⟩ := step_of hcs
    exact ⟨x, by rw [agg_step]; rfl, hx⟩) css h3
  rw [h4, c_step] at h1
  exact ⟨L, h1, by omega, h6⟩
theorem unit_open {cs : Array Value} {d : DataW H} {p : List MemPlace} (_hs : cs.size = Tryd.prog.cellsOf 27) (h : ∃ fuel, DataW.trod enc Tryd.prog w bs spare held fuel 27 cs.toList = some (d, p)) :
    ∃ u : Ut, RepI (fun b => b < w.heap.size) w (uv u) (.agg cs) ∧ Fit u := by
  obtain ⟨fuel, h⟩ := h
  obtain ⟨is, h1, h2⟩ := open_cells S0_ok fuel 27 cs.toList _ (by decide) h
  obtain ⟨u, h3, h4⟩ := (units_of h2).1 rfl
  refine ⟨u, ?_, h4⟩
  rw [← h3, RepI_agg]
  exact ⟨_, by simp, h1⟩
theorem id_open {cs : Array Value} {d : DataW H} {p : List MemPlace} (h : ∃ fuel, DataW.trod enc Tryd.prog w bs spare held fuel 23 cs.toList = some (d, p)) :
    ∃ t : Trip, RepI (fun b => b < w.heap.size) w (idv t) (.agg cs) ∧ t.ok := by
  obtain ⟨fuel, h⟩ := h
  obtain ⟨is, h1, h2⟩ := open_cells S0_ok fuel 23 cs.toList _ (by decide) h
  obtain ⟨t, rfl, h4⟩ := id_of h2
  refine ⟨t, ?_, h4⟩
  unfold idv
  rw [RepI_agg]
  exact ⟨_, by simp, h1⟩
theorem step_open {cs : Array Value} {d : DataW H} {p : List MemPlace} (h : ∃ fuel, DataW.trod enc Tryd.prog w bs spare held fuel 72 cs.toList = some (d, p)) :
    ∃ s : Stp, RepI (fun b => b < w.heap.size) w (spv s) (.agg cs) ∧ inI s.kind ∧ s.label.size ≤ maxLen := by
  obtain ⟨fuel, h⟩ := h
  obtain ⟨is, h1, h2⟩ := open_cells S0_ok fuel 72 cs.toList _ (by decide) h
  obtain ⟨s, rfl, h4⟩ := step_of h2
  refine ⟨s, ?_, h4⟩
  unfold spv
  rw [RepI_agg]
  exact ⟨_, by simp, h1⟩
end
end Go.Proofs.YtbkbmeciaippmaaDoor.Pa

namespace Go.Proofs.YtbkbmeciaippmaaDoor.Pa
open Go Go.Pv Go.Proofs.YtbkbmeciaippmaaDoor.Pu
set_option linter.unusedSimpArgs false
open Lab Lcs Go.Proofs.YtbkbmeciaippmaaDoor Go.RowKit
set_option maxRecDepth 10000
set_option maxHeartbeats 8000000
/-- What a unit alone takes of the budget. -/
def costU (u : Ut) : Nat := 1 + u.words.length / 50 + u.head.length / 50 + u.label.size / 50
mutual
def fewI : Ut → Int → Nat → Int
  | .mk id k l h w ks, left, d => if 12 < d then -1 else fewsI ks (left - (costU (.mk id k l h w ks) : Nat)) (d + 1)
def fewsI : List Ut → Int → Nat → Int
  | [], l, _ => l
  | k :: r, l, d => if l < 0 then l else fewsI r (fewI k l d) d
end
theorem fewI_eq (u : Ut) (l : Int) (d : Nat) : fewI u l d = if 12 < d then -1 else fewsI u.kids (l - (costU u : Nat)) (d + 1) := by cases u; rw [fewI]; rfl
theorem fewsI_neg : ∀ {ks : List Ut} {l : Int} {d : Nat}, l < 0 → fewsI ks l d = l
  | [], _, _, _ => rfl
  | k :: r, l, d, h => by rw [fewsI, if_pos h]
theorem fewsI_app : ∀ (a b : List Ut) (l : Int) (d : Nat), fewsI (a ++ b) l d = fewsI b (fewsI a l d) d
  | [], b, l, d => rfl
  | k :: a, b, l, d => by
    rw [List.cons_append, fewsI, fewsI]
    split
    · rename_i h; rw [fewsI_neg h]
    · exact fewsI_app a b _ d
theorem fewsI_take {l : List Ut} {k : Nat} {u : Ut} (hx : l[k]? = some u) (m : Int) (d : Nat) (h : 0 ≤ fewsI (l.take k) m d) : fewsI (l.take (k + 1)) m d = fewI u (fewsI (l.take k) m d) d := by
  rw [take_one hx, fewsI_app, fewsI, if_neg (by omega)]
  rfl
theorem fewsI_stop {l : List Ut} {k : Nat} (m : Int) (d : Nat) (h : fewsI (l.take k) m d < 0) : fewsI l m d = fewsI (l.take k) m d := by
  conv => lhs; rw [← List.take_append_drop k l, fewsI_app]
  exact fewsI_neg h
mutual
theorem few_spec : ∀ (u : Ut) (l : Int) (d : Nat), 0 ≤ fewI u l d → fewI u l d + u.count ≤ l ∧ (∀ x ∈ u.all, (costU x : Int) ≤ l) ∧ d + u.depth ≤ 12
  | .mk id k lb h w ks, l, d, hf => by
    rw [fewI] at hf ⊢
    split at hf
    · omega
    · rename_i hd
      rw [if_neg hd]
      obtain ⟨h1, h2, h3⟩ := fews_spec ks _ _ hf
      have hc : 1 ≤ costU (.mk id k lb h w ks) := by unfold costU; omega
      refine ⟨by rw [count_mk]; omega, fun x hx => ?_, by have := h3 (by omega); unfold Ut.depth; omega⟩
      rw [all_mk] at hx
      rcases List.mem_cons.1 hx with rfl | hx
      · omega
      · have := h2 x hx; omega
theorem fews_spec : ∀ (ks : List Ut) (l : Int) (d : Nat), 0 ≤ fewsI ks l d → fewsI ks l d + Ut.counts ks ≤ l ∧ (∀ x ∈ Ut.alls ks, (costU x : Int) ≤ l) ∧ (d ≤ 13 → d + Ut.depths ks ≤ 13)
  | [], l, d, hf => by simp only [fewsI, Ut.counts, Ut.alls, Ut.depths] at hf ⊢; refine ⟨by omega, fun x hx => (by cases hx), by omega⟩
  | k :: r, l, d, hf => by
    rw [fewsI] at hf ⊢
    split at hf
    · omega
    · rename_i hl
      rw [if_neg hl]
      obtain ⟨h1, h2, h3⟩ := fews_spec r _ _ hf
      have hk : 0 ≤ fewI k l d := by
        rcases Int.lt_or_le (fewI k l d) 0 with h | h
        · rw [fewsI_neg h] at hf; exact absurd hf (by omega)
        · exact h
      obtain ⟨g1, g2, g3⟩ := few_spec k l d hk
      refine ⟨by simp only [Ut.counts]; omega, fun x hx => ?_, fun hd => by simp only [Ut.depths]; have := h3 hd; omega⟩
      unfold Ut.alls at hx
      rcases List.mem_append.1 hx with hx | hx
      · exact g2 x hx
      · have := h2 x hx; omega
end
/-- What is known of every unit of a tree that came in. -/
def FitN (u : Ut) : Prop := ∀ x ∈ u.all, x.label.size ≤ 9223372036854775807 ∧ x.head.length ≤ 9223372036854775807 ∧ x.words.length ≤ 9223372036854775807 ∧ x.kids.length ≤ 9223372036854775807
theorem FitN.kid {u : Ut} (h : FitN u) {k : Nat} {x : Ut} (hx : u.kids[k]? = some x) : FitN x := fun y hy => h y (kid_in (List.mem_of_getElem? hx) y hy)
theorem fewI_up {u : Ut} {l : Int} {d : Nat} (h : 0 ≤ fewI u l d) : fewI u l d ≤ l := by have := (few_spec u l d h).1; omega
theorem tdiv_nat (n : Nat) : (n : Int).tdiv 50 = ((n / 50 : Nat) : Int) := by rw [show (50 : Int) = ((50 : Nat) : Int) from rfl, Int.ofNat_tdiv]
theorem few_pc (n : Nat) : ∀ (u : Ut) (l : Int) (d : Nat), u.count ≤ n → FitN u → 0 ≤ l → l ≤ 1000 → d ≤ 13 → PC Tryd.prog envU 95 [uv u, .int .i64 l, .int .i64 d] [.int .i64 (fewI u l d)] := by
  induction n with
  | zero => intro u l d h; have := count_pos u; omega
  | succ n ih =>
  intro u l d hn hF h0 h1 hd13
  have hue := uv_eq u
  obtain ⟨b1, b2, b3, b4⟩ := hF u (self_all u)
  have hm1 : (u.words.map wdv).length = u.words.length := List.length_map _
  have hm2 : (u.head.map wdv).length = u.head.length := List.length_map _
  have hml : (u.kids.map uv).length = u.kids.length := List.length_map _
  have t1 : (((u.words.map wdv).length : Nat) : Int).tdiv 50 = ((u.words.length / 50 : Nat) : Int) := by rw [hm1]; exact tdiv_nat _
  have t2 : (((u.head.map wdv).length : Nat) : Int).tdiv 50 = ((u.head.length / 50 : Nat) : Int) := by rw [hm2]; exact tdiv_nat _
  have t3 := tdiv_nat u.label.size
  have hcost : costU u = 1 + u.words.length / 50 + u.head.length / 50 + u.label.size / 50 := rfl
  rw [fewI_eq, hue]
  by_cases hd : 12 < d
  · rw [if_pos hd]
    refine PC.of_va (T := tb0) eqs2_ok tb_ok rfl mixed Tryd.func95 rfl rfl (Nat.le_of_ble_eq_true rfl) ?_; intro Γ C WK LP fin h0 hW hC hB hR hLP hfin
    (try (conv => whnf)); (repeat ((first | (with_reducible refine Fork.T (fun hc => ?_) ?_); (exfalso; first | omega | (simp [eqC, cellsI, idv, idl] at hc; first | done | omega) | contradiction) | (with_reducible refine Fork.F (fun hc => ?_) ?_); (exfalso; first | omega | (simp [eqC, cellsI, idv, idl] at hc; first | done | omega) | contradiction) | (with_reducible refine Owe.mk ?_ ?_); (first | omega | (unfold most; omega) | decide +kernel | exact Nat.le_of_ble_eq_true rfl | assumption | (simp [most]; omega)) | (with_reducible intro z hz); (first | (replace hz := hz (by omega); subst hz) | subst hz)); (try (conv => whnf))))
    exact hfin _ (ILes.refl _)
  · rw [if_neg hd]
    have hm0 : ∃ m : Int, m = l - (costU u : Nat) := ⟨_, rfl⟩
    obtain ⟨m, hm⟩ := hm0
    rw [← hm]
    have hmu : m ≤ 1000 := by omega
    refine PC.of_va (T := tb0) eqs2_ok tb_ok rfl mixed Tryd.func95 rfl rfl (Nat.le_of_ble_eq_true rfl) ?_; intro Γ C WK LP fin h0 hW hC hB hR hLP hfin
    (try (conv => whnf)); (repeat ((first | (with_reducible refine Fork.T (fun hc => ?_) ?_); (exfalso; first | omega | (simp [eqC, cellsI, idv, idl] at hc; first | done | omega) | contradiction) | (with_reducible refine Fork.F (fun hc => ?_) ?_); (exfalso; first | omega | (simp [eqC, cellsI, idv, idl] at hc; first | done | omega) | contradiction) | (with_reducible refine Owe.mk ?_ ?_); (first | omega | (unfold most; omega) | decide +kernel | exact Nat.le_of_ble_eq_true rfl | assumption | (simp [most]; omega)) | (with_reducible intro z hz); (first | (replace hz := hz (by omega); subst hz) | subst hz)); (try (conv => whnf))))
    refine hLP _ _ _ Nat (fun k => ⟨[(1, .imm (.int .i64 (fewsI (u.kids.take k) m (d + 1)))), (2, .imm (.int .i64 (d : Nat))), (3, .ptr 0 1 0), (7, .imm (.int .i64 (k : Nat)))], [.box 1 [.imm (.int .i64 u.id.x), .imm (.int .i64 u.id.y), .imm (.int .i64 u.id.z), .imm (.int .i64 u.kind), .imm (.str u.label), .imm (.sl 4 (u.head.map wdv)), .imm (.sl 4 (u.words.map wdv)), .imm (.sl 8 (u.kids.map uv))]]⟩) (fun k => k ≤ u.kids.length ∧ fewsI (u.kids.take k) m (d + 1) ≤ 1000) (fun k => u.kids.length - k) 0 ⟨Nat.zero_le _, hmu⟩ (WeakA.slots 1 (by first | omega | (rw [h0]; exact Nat.le_of_ble_eq_true rfl)) rfl rfl (by first | (simp only [List.all_cons, List.all_nil, blkBelow, belowL_imm, belowL, belowB, Bool.and_true, Bool.true_and]; first | done | decide) | rfl | simp [blkBelow, belowB, belowL, belowL_imm]) (by (repeat ((conv => whnf); first | exact trivial | refine And.intro (by first | exact WkOne.any | exact WkOne.eq (by with_reducible rfl) rfl | exact WkOne.eq (congrArg (fun z => PV.imm (IV.int IntKind.i64 z)) (by first | omega | (simp [fewsI]; done) | (simp [fewsI]; omega))) rfl | exact WkOne.eq (by first | (simp [fewsI]; done) | fail) rfl | exact WkOne.eq rfl rfl | exact WkOne.le rfl (ILe.nil _)) ?_)))) ?_
    rintro k ⟨hk, hup⟩
    by_cases hlt : k < u.kids.length
    · by_cases h00 : 0 ≤ fewsI (u.kids.take k) m (d + 1)
      · obtain ⟨x, hx⟩ := at_k hlt
        have g1 := kid_lt' hx
        have hux := uv_eq x
        have hI := ih x (fewsI (u.kids.take k) m (d + 1)) (d + 1) (by omega) (hF.kid hx) h00 hup (by omega)
        have hnx := fewsI_take hx m (d + 1) h00
        have hnu : fewI x (fewsI (u.kids.take k) m (d + 1)) (d + 1) ≤ 1000 := by
          rcases Int.lt_or_le (fewI x (fewsI (u.kids.take k) m (d + 1)) (d + 1)) 0 with h | h
          · omega
          · have := fewI_up h; omega
        rw [hux, show ((d + 1 : Nat) : Int) = (d : Int) + 1 by omega] at hI
        (try (conv => whnf)); (repeat ((first | (with_reducible refine Fork.T (fun hc => ?_) ?_); (exfalso; first | omega | (simp [eqC, cellsI, idv, idl] at hc; first | done | omega) | contradiction) | (with_reducible refine Fork.F (fun hc => ?_) ?_); (exfalso; first | omega | (simp [eqC, cellsI, idv, idl] at hc; first | done | omega) | contradiction) | (with_reducible refine Owe.mk ?_ ?_); (first | omega | (unfold most; omega) | decide +kernel | exact Nat.le_of_ble_eq_true rfl | assumption | (simp [most]; omega)) | (with_reducible intro z hz); (first | (replace hz := hz (by omega); subst hz) | subst hz)); (try (conv => whnf))))
        refine Idx.mk k (uv x) _ rfl (by simp [hx]) (by rw [hux]; try rfl) ?_
        (try (conv => whnf)); (repeat ((first | (with_reducible refine Fork.T (fun hc => ?_) ?_); (exfalso; first | omega | (simp [eqC, cellsI, idv, idl] at hc; first | done | omega) | contradiction) | (with_reducible refine Fork.F (fun hc => ?_) ?_); (exfalso; first | omega | (simp [eqC, cellsI, idv, idl] at hc; first | done | omega) | contradiction) | (with_reducible refine Owe.mk ?_ ?_); (first | omega | (unfold most; omega) | decide +kernel | exact Nat.le_of_ble_eq_true rfl | assumption | (simp [most]; omega)) | (with_reducible intro z hz); (first | (replace hz := hz (by omega); subst hz) | subst hz)); (try (conv => whnf))))
        refine CallV.mk _ (hC _ _ _ (PCw.of (hI))) (fun js hjs => ?_); subst hjs
        (try (conv => whnf)); (repeat ((first | (with_reducible refine Fork.T (fun hc => ?_) ?_); (exfalso; first | omega | (simp [eqC, cellsI, idv, idl] at hc; first | done | omega) | contradiction) | (with_reducible refine Fork.F (fun hc => ?_) ?_); (exfalso; first | omega | (simp [eqC, cellsI, idv, idl] at hc; first | done | omega) | contradiction) | (with_reducible refine Owe.mk ?_ ?_); (first | omega | (unfold most; omega) | decide +kernel | exact Nat.le_of_ble_eq_true rfl | assumption | (simp [most]; omega)) | (with_reducible intro z hz); (first | (replace hz := hz (by omega); subst hz) | subst hz)); (try (conv => whnf))))
        exact ⟨k + 1, ⟨by omega, by rw [hnx]; exact hnu⟩, by dsimp only; omega, (WeakA.slots 1 (by first | omega | (rw [h0]; exact Nat.le_of_ble_eq_true rfl)) rfl rfl (by first | (simp only [List.all_cons, List.all_nil, blkBelow, belowL_imm, belowL, belowB, Bool.and_true, Bool.true_and]; first | done | decide) | rfl | simp [blkBelow, belowB, belowL, belowL_imm]) (by (repeat ((conv => whnf); first | exact trivial | refine And.intro (by first | exact WkOne.any | exact WkOne.eq (by with_reducible rfl) rfl | exact WkOne.eq (congrArg (fun z => PV.imm (IV.int IntKind.i64 z)) (by first | omega | (simp [hnx]; done) | (simp [hnx]; omega))) rfl | exact WkOne.eq (by first | (simp [hnx]; done) | fail) rfl | exact WkOne.eq rfl rfl | exact WkOne.le rfl (ILe.nil _)) ?_))))⟩
      · have hst := fewsI_stop m (d + 1) (l := u.kids) (k := k) (by omega)
        rw [hst] at hfin
        (try (conv => whnf)); (repeat ((first | (with_reducible refine Fork.T (fun hc => ?_) ?_); (exfalso; first | omega | (simp [eqC, cellsI, idv, idl] at hc; first | done | omega) | contradiction) | (with_reducible refine Fork.F (fun hc => ?_) ?_); (exfalso; first | omega | (simp [eqC, cellsI, idv, idl] at hc; first | done | omega) | contradiction) | (with_reducible refine Owe.mk ?_ ?_); (first | omega | (unfold most; omega) | decide +kernel | exact Nat.le_of_ble_eq_true rfl | assumption | (simp [most]; omega)) | (with_reducible intro z hz); (first | (replace hz := hz (by omega); subst hz) | subst hz)); (try (conv => whnf))))
        exact hfin _ (ILes.refl _)
    · obtain rfl : k = u.kids.length := by omega
      rw [List.take_length] at hup
      by_cases h00 : 0 ≤ fewsI u.kids m (d + 1)
      · (try (conv => whnf)); (repeat ((first | (with_reducible refine Fork.T (fun hc => ?_) ?_); (exfalso; first | omega | (simp [eqC, cellsI, idv, idl] at hc; first | done | omega) | contradiction) | (with_reducible refine Fork.F (fun hc => ?_) ?_); (exfalso; first | omega | (simp [eqC, cellsI, idv, idl] at hc; first | done | omega) | contradiction) | (with_reducible refine Owe.mk ?_ ?_); (first | omega | (unfold most; omega) | decide +kernel | exact Nat.le_of_ble_eq_true rfl | assumption | (simp [most]; omega)) | (with_reducible intro z hz); (first | (replace hz := hz (by omega); subst hz) | subst hz)); (try (conv => whnf))))
        rw [List.take_length]
        exact hfin _ (ILes.refl _)
      · (try (conv => whnf)); (repeat ((first | (with_reducible refine Fork.T (fun hc => ?_) ?_); (exfalso; first | omega | (simp [eqC, cellsI, idv, idl] at hc; first | done | omega) | contradiction) | (with_reducible refine Fork.F (fun hc => ?_) ?_); (exfalso; first | omega | (simp [eqC, cellsI, idv, idl] at hc; first | done | omega) | contradiction) | (with_reducible refine Owe.mk ?_ ?_); (first | omega | (unfold most; omega) | decide +kernel | exact Nat.le_of_ble_eq_true rfl | assumption | (simp [most]; omega)) | (with_reducible intro z hz); (first | (replace hz := hz (by omega); subst hz) | subst hz)); (try (conv => whnf))))
        rw [List.take_length]
        exact hfin _ (ILes.refl _)
def fewB (u : Ut) : Bool := decide (0 ≤ fewI u 60 0)
theorem Few_pc (u : Ut) (hF : FitN u) : PC Tryd.prog envU 50 [uv u, .int .i64 60] [.bool (fewB u)] := by
  have hI := few_pc u.count u 60 0 (Nat.le_refl _) hF (by omega) (by omega) (by omega)
  have hue := uv_eq u
  unfold fewB
  rw [hue] at hI ⊢
  by_cases h : 0 ≤ fewI u 60 0
  · rw [decide_eq_true h]
    refine PC.of_va (T := tb0) eqs2_ok tb_ok rfl mixed Tryd.func50 rfl rfl (Nat.le_of_ble_eq_true rfl) ?_; intro Γ C WK LP fin h0 hW hC hB hR hLP hfin
    (try (conv => whnf)); (repeat ((first | (with_reducible refine Fork.T (fun hc => ?_) ?_); (exfalso; first | omega | (simp [eqC, cellsI, idv, idl] at hc; first | done | omega) | contradiction) | (with_reducible refine Fork.F (fun hc => ?_) ?_); (exfalso; first | omega | (simp [eqC, cellsI, idv, idl] at hc; first | done | omega) | contradiction) | (with_reducible refine Owe.mk ?_ ?_); (first | omega | (unfold most; omega) | decide +kernel | exact Nat.le_of_ble_eq_true rfl | assumption | (simp [most]; omega)) | (with_reducible intro z hz); (first | (replace hz := hz (by omega); subst hz) | subst hz)); (try (conv => whnf))))
    refine CallV.mk _ (hC _ _ _ (PCw.of (hI))) (fun js hjs => ?_); subst hjs
    (try (conv => whnf)); (repeat ((first | (with_reducible refine Fork.T (fun hc => ?_) ?_); (exfalso; first | omega | (simp [eqC, cellsI, idv, idl] at hc; first | done | omega) | contradiction) | (with_reducible refine Fork.F (fun hc => ?_) ?_); (exfalso; first | omega | (simp [eqC, cellsI, idv, idl] at hc; first | done | omega) | contradiction) | (with_reducible refine Owe.mk ?_ ?_); (first | omega | (unfold most; omega) | decide +kernel | exact Nat.le_of_ble_eq_true rfl | assumption | (simp [most]; omega)) | (with_reducible intro z hz); (first | (replace hz := hz (by omega); subst hz) | subst hz)); (try (conv => whnf))))
    exact hfin _ (ILes.refl _)
  · rw [decide_eq_false h]
    refine PC.of_va (T := tb0) eqs2_ok tb_ok rfl mixed Tryd.func50 rfl rfl (Nat.le_of_ble_eq_true rfl) ?_; intro Γ C WK LP fin h0 hW hC hB hR hLP hfin
    (try (conv => whnf)); (repeat ((first | (with_reducible refine Fork.T (fun hc => ?_) ?_); (exfalso; first | omega | (simp [eqC, cellsI, idv, idl] at hc; first | done | omega) | contradiction) | (with_reducible refine Fork.F (fun hc => ?_) ?_); (exfalso; first | omega | (simp [eqC, cellsI, idv, idl] at hc; first | done | omega) | contradiction) | (with_reducible refine Owe.mk ?_ ?_); (first | omega | (unfold most; omega) | decide +kernel | exact Nat.le_of_ble_eq_true rfl | assumption | (simp [most]; omega)) | (with_reducible intro z hz); (first | (replace hz := hz (by omega); subst hz) | subst hz)); (try (conv => whnf))))
    refine CallV.mk _ (hC _ _ _ (PCw.of (hI))) (fun js hjs => ?_); subst hjs
    (try (conv => whnf)); (repeat ((first | (with_reducible refine Fork.T (fun hc => ?_) ?_); (exfalso; first | omega | (simp [eqC, cellsI, idv, idl] at hc; first | done | omega) | contradiction) | (with_reducible refine Fork.F (fun hc => ?_) ?_); (exfalso; first | omega | (simp [eqC, cellsI, idv, idl] at hc; first | done | omega) | contradiction) | (with_reducible refine Owe.mk ?_ ?_); (first | omega | (unfold most; omega) | decide +kernel | exact Nat.le_of_ble_eq_true rfl | assumption | (simp [most]; omega)) | (with_reducible intro z hz); (first | (replace hz := hz (by omega); subst hz) | subst hz)); (try (conv => whnf))))
    exact hfin _ (ILes.refl _)
theorem fewB_facts {u : Ut} (h : fewB u = true) : u.count ≤ 60 ∧ (∀ x ∈ u.all, x.label.size ≤ 3050 ∧ x.words.length ≤ 3050 ∧ x.head.length ≤ 3050) ∧ u.depth ≤ 12 := by
  unfold fewB at h
  rw [decide_eq_true_eq] at h
  obtain ⟨h1, h2, h3⟩ := few_spec u 60 0 h
  refine ⟨by omega, fun x hx => ?_, by omega⟩
  have := h2 x hx
  unfold costU at this
  omega
end Go.Proofs.YtbkbmeciaippmaaDoor.Pa

namespace Go.Proofs.YtbkbmeciaippmaaDoor.Pa
open Go Go.Pv Go.Proofs.YtbkbmeciaippmaaDoor.Pu
set_option linter.unusedSimpArgs false
open Lab Lcs Go.Proofs.YtbkbmeciaippmaaDoor Go.RowKit
set_option maxRecDepth 10000
set_option maxHeartbeats 16000000
theorem id_eq {a b : Trip} (h : a = b) : eqC [.int .i64 a.x, .int .i64 a.y, .int .i64 a.z] [.int .i64 b.x, .int .i64 b.y, .int .i64 b.z] = true := by subst h; simp [eqC]
theorem id_ne {a b : Trip} (h : a ≠ b) : ¬ eqC [.int .i64 a.x, .int .i64 a.y, .int .i64 a.z] [.int .i64 b.x, .int .i64 b.y, .int .i64 b.z] = true := fun e => h (by cases a; cases b; simpa [eqC] using e)
theorem fullc_pcb (id : Trip) (u : Ut) (d : Nat) (L : List Stp) (hd : d ≤ L.length) (hl : L.length ≤ 100000000) : PCB Tryd.prog envU 99 [.imm (uv u), .imm (.int .i64 (d : Nat)), .ptr 0 1 0, .ptr 1 1 0] [.box 1 [.row 2 1], .box 1 [.imm (.int .i64 id.x), .imm (.int .i64 id.y), .imm (.int .i64 id.z)], .row 72 2 1 ((List.map spv (L)).map .imm)] [.imm (.bool (!decide (u.id = id)))] [.box 1 [.row 2 2], .box 1 [.imm (.int .i64 id.x), .imm (.int .i64 id.y), .imm (.int .i64 id.z)], .row 72 2 2 ((List.map spv (L.take d ++ [ustep u])).map .imm)] := by
  have hL : ((L.map spv).map PV.imm).length = L.length := by simp
  have hS := stepOf_pc u
  rw [uv_eq] at hS ⊢
  by_cases h : u.id = id
  · have hi := id_eq h
    rw [decide_eq_true h]
    refine PCB.of_va (T := tb0) eqs2_ok tb_ok rfl mixed Tryd.func99 rfl rfl rfl (Nat.le_of_ble_eq_true rfl) rfl ?_; intro Γ C WK LP fin h0 hk0 hW hC hB hR hLP hfin
    (try (conv => whnf)); (repeat ((first | (with_reducible refine Fork.T (fun hc => ?_) ?_); (exfalso; first | omega | (simp [eqC, cellsI, idv, idl] at hc; first | done | omega) | contradiction) | (with_reducible refine Fork.F (fun hc => ?_) ?_); (exfalso; first | omega | (simp [eqC, cellsI, idv, idl] at hc; first | done | omega) | contradiction) | (with_reducible refine Owe.mk ?_ ?_); (first | omega | (unfold most; omega) | decide +kernel | exact Nat.le_of_ble_eq_true rfl | assumption | (simp [most]; omega)) | (with_reducible intro z hz); (first | (replace hz := hz (by omega); subst hz) | subst hz)); (try (conv => whnf))))
    refine CallV.mk _ (hC _ _ _ (PCw.of (hS))) (fun js hjs => ?_); subst hjs
    (try (conv => whnf)); (repeat ((first | (with_reducible refine Fork.T (fun hc => ?_) ?_); (exfalso; first | omega | (simp [eqC, cellsI, idv, idl] at hc; first | done | omega) | contradiction) | (with_reducible refine Fork.F (fun hc => ?_) ?_); (exfalso; first | omega | (simp [eqC, cellsI, idv, idl] at hc; first | done | omega) | contradiction) | (with_reducible refine Owe.mk ?_ ?_); (first | omega | (unfold most; omega) | decide +kernel | exact Nat.le_of_ble_eq_true rfl | assumption | (simp [most]; omega)) | (with_reducible intro z hz); (first | (replace hz := hz (by omega); subst hz) | subst hz)); (try (conv => whnf))))
    exact hfin _ (((WeakA.row 2 (((L.take d ++ [ustep u]).map spv).map .imm) rfl (by simp [List.map_take]))).trans ((WeakA.renew 2 2 rfl (by first | omega | (intro _; rw [hk0 _ _ rfl]; exact Nat.le_of_ble_eq_true rfl)) (by repeat (first | exact trivial | refine And.intro (rgL_imms _ _ _ _) ?_ | refine And.intro rfl ?_))).trans (WeakA.slots 3 (by first | omega | (rw [h0]; exact Nat.le_of_ble_eq_true rfl)) rfl rfl (by first | (simp only [List.all_cons, List.all_nil, blkBelow, belowL_imm, belowL, belowB, Bool.and_true, Bool.true_and]; first | done | decide) | rfl | simp [blkBelow, belowB, belowL, belowL_imm]) (by (repeat ((conv => whnf); first | exact trivial | refine And.intro (by first | exact WkOne.any | exact WkOne.eq (by with_reducible rfl) rfl | exact WkOne.int (by first | omega | (simp; first | done | omega)) | exact WkOne.eq rfl rfl | exact WkOne.le rfl (ILe.nil _)) ?_))))))
  · have hi := id_ne h
    rw [decide_eq_false h]
    refine PCB.of_va (T := tb0) eqs2_ok tb_ok rfl mixed Tryd.func99 rfl rfl rfl (Nat.le_of_ble_eq_true rfl) rfl ?_; intro Γ C WK LP fin h0 hk0 hW hC hB hR hLP hfin
    (try (conv => whnf)); (repeat ((first | (with_reducible refine Fork.T (fun hc => ?_) ?_); (exfalso; first | omega | (simp [eqC, cellsI, idv, idl] at hc; first | done | omega) | contradiction) | (with_reducible refine Fork.F (fun hc => ?_) ?_); (exfalso; first | omega | (simp [eqC, cellsI, idv, idl] at hc; first | done | omega) | contradiction) | (with_reducible refine Owe.mk ?_ ?_); (first | omega | (unfold most; omega) | decide +kernel | exact Nat.le_of_ble_eq_true rfl | assumption | (simp [most]; omega)) | (with_reducible intro z hz); (first | (replace hz := hz (by omega); subst hz) | subst hz)); (try (conv => whnf))))
    refine CallV.mk _ (hC _ _ _ (PCw.of (hS))) (fun js hjs => ?_); subst hjs
    (try (conv => whnf)); (repeat ((first | (with_reducible refine Fork.T (fun hc => ?_) ?_); (exfalso; first | omega | (simp [eqC, cellsI, idv, idl] at hc; first | done | omega) | contradiction) | (with_reducible refine Fork.F (fun hc => ?_) ?_); (exfalso; first | omega | (simp [eqC, cellsI, idv, idl] at hc; first | done | omega) | contradiction) | (with_reducible refine Owe.mk ?_ ?_); (first | omega | (unfold most; omega) | decide +kernel | exact Nat.le_of_ble_eq_true rfl | assumption | (simp [most]; omega)) | (with_reducible intro z hz); (first | (replace hz := hz (by omega); subst hz) | subst hz)); (try (conv => whnf))))
    exact hfin _ (((WeakA.row 2 (((L.take d ++ [ustep u]).map spv).map .imm) rfl (by simp [List.map_take]))).trans ((WeakA.renew 2 2 rfl (by first | omega | (intro _; rw [hk0 _ _ rfl]; exact Nat.le_of_ble_eq_true rfl)) (by repeat (first | exact trivial | refine And.intro (rgL_imms _ _ _ _) ?_ | refine And.intro rfl ?_))).trans (WeakA.slots 3 (by first | omega | (rw [h0]; exact Nat.le_of_ble_eq_true rfl)) rfl rfl (by first | (simp only [List.all_cons, List.all_nil, blkBelow, belowL_imm, belowL, belowB, Bool.and_true, Bool.true_and]; first | done | decide) | rfl | simp [blkBelow, belowB, belowL, belowL_imm]) (by (repeat ((conv => whnf); first | exact trivial | refine And.intro (by first | exact WkOne.any | exact WkOne.eq (by with_reducible rfl) rfl | exact WkOne.int (by first | omega | (simp; first | done | omega)) | exact WkOne.eq rfl rfl | exact WkOne.le rfl (ILe.nil _)) ?_))))))
theorem visFs_true {id : Trip} {l : List Ut} {d : Nat} {L : List Stp} (hL : d ≤ L.length) (h : (visFs id l d L).1 = true) : d ≤ (visFs id l d L).2.length ∧ (visFs id l d L).2.length ≤ max L.length (d + Ut.counts l) := by
  obtain ⟨h1, h2, h3⟩ := visFs_spec id l d L hL
  by_cases hk : linK id l = []
  · exact ⟨(h1 hk).2.1, h3⟩
  · rw [h2 hk] at h; cases h
theorem fvisit_pcb (id : Trip) (n : Nat) : ∀ (u : Ut) (L : List Stp) (d : Nat), u.count ≤ n → d ≤ L.length → L.length + u.count ≤ 100000000 → PCB Tryd.prog envU 98 [.imm (uv u), .imm (.int .i64 (d : Nat)), .clo 99 [.ptr 0 1 0, .ptr 1 1 0]] [.box 1 [.row 2 1], .box 1 [.imm (.int .i64 id.x), .imm (.int .i64 id.y), .imm (.int .i64 id.z)], .row 72 2 1 ((List.map spv (L)).map .imm)] [.imm (.bool (visF id u d L).1)] [.box 1 [.row 2 2], .box 1 [.imm (.int .i64 id.x), .imm (.int .i64 id.y), .imm (.int .i64 id.z)], .row 72 2 2 ((List.map spv ((visF id u d L).2)).map .imm)] := by
  induction n with
  | zero => intro u L d h; have := count_pos u; omega
  | succ n ih =>
  intro u L d hn hd hM
  have hue := uv_eq u
  have hcu := Ut.count_eq u
  have hkl := kids_counts u.kids
  have hml : (u.kids.map uv).length = u.kids.length := List.length_map _
  have hI := fullc_pcb id u d L hd (by omega)
  rw [visF_eq]
  by_cases hid : u.id = id
  · rw [decide_eq_true hid] at hI
    rw [if_pos hid]
    rw [hue] at hI ⊢
    refine PCB.of_va (T := tb0) eqs2_ok tb_ok rfl mixed Tryd.func98 rfl rfl rfl (Nat.le_of_ble_eq_true rfl) rfl ?_; intro Γ C WK LP fin h0 hk0 hW hC hB hR hLP hfin
    (try (conv => whnf)); (repeat ((first | (with_reducible refine Fork.T (fun hc => ?_) ?_); (exfalso; first | omega | (simp [eqC, cellsI, idv, idl] at hc; first | done | omega) | contradiction) | (with_reducible refine Fork.F (fun hc => ?_) ?_); (exfalso; first | omega | (simp [eqC, cellsI, idv, idl] at hc; first | done | omega) | contradiction) | (with_reducible refine Owe.mk ?_ ?_); (first | omega | (unfold most; omega) | decide +kernel | exact Nat.le_of_ble_eq_true rfl | assumption | (simp [most]; omega)) | (with_reducible intro z hz); (first | (replace hz := hz (by omega); subst hz) | subst hz)); (try (conv => whnf))))
    refine Imms.mk _ rfl ?_
    (try (conv => whnf)); (repeat ((first | (with_reducible refine Fork.T (fun hc => ?_) ?_); (exfalso; first | omega | (simp [eqC, cellsI, idv, idl] at hc; first | done | omega) | contradiction) | (with_reducible refine Fork.F (fun hc => ?_) ?_); (exfalso; first | omega | (simp [eqC, cellsI, idv, idl] at hc; first | done | omega) | contradiction) | (with_reducible refine Owe.mk ?_ ?_); (first | omega | (unfold most; omega) | decide +kernel | exact Nat.le_of_ble_eq_true rfl | assumption | (simp [most]; omega)) | (with_reducible intro z hz); (first | (replace hz := hz (by omega); subst hz) | subst hz)); (try (conv => whnf))))
    refine CallB.mk ([.imm (.bool false)]) ([.box 1 [.row 2 2], .box 1 [.imm (.int .i64 id.x), .imm (.int .i64 id.y), .imm (.int .i64 id.z)], .row 72 2 2 (List.map spv (L.take d ++ [ustep u]))]) (hB _ _ _ _ _ (hI)) ?_
    (try (conv => whnf)); (repeat ((first | (with_reducible refine Fork.T (fun hc => ?_) ?_); (exfalso; first | omega | (simp [eqC, cellsI, idv, idl] at hc; first | done | omega) | contradiction) | (with_reducible refine Fork.F (fun hc => ?_) ?_); (exfalso; first | omega | (simp [eqC, cellsI, idv, idl] at hc; first | done | omega) | contradiction) | (with_reducible refine Owe.mk ?_ ?_); (first | omega | (unfold most; omega) | decide +kernel | exact Nat.le_of_ble_eq_true rfl | assumption | (simp [most]; omega)) | (with_reducible intro z hz); (first | (replace hz := hz (by omega); subst hz) | subst hz)); (try (conv => whnf))))
    exact hfin _ (WeakA.slots 3 (by first | omega | (rw [h0]; exact Nat.le_of_ble_eq_true rfl)) rfl rfl (by first | (simp only [List.all_cons, List.all_nil, blkBelow, belowL_imm, belowL, belowB, Bool.and_true, Bool.true_and]; first | done | decide) | rfl | simp [blkBelow, belowB, belowL, belowL_imm]) (by (repeat ((conv => whnf); first | exact trivial | refine And.intro (by first | exact WkOne.any | exact WkOne.eq (by with_reducible rfl) rfl | exact WkOne.int (by first | omega | (simp; first | done | omega)) | exact WkOne.eq rfl rfl | exact WkOne.le rfl (ILe.nil _)) ?_))))
  · rw [decide_eq_false hid] at hI
    rw [if_neg hid]
    have hL1 : (L.take d ++ [ustep u]).length = d + 1 := by simp; omega
    generalize hL1' : L.take d ++ [ustep u] = L1 at hI hL1
    rw [hue] at hI ⊢
    refine PCB.of_va (T := tb0) eqs2_ok tb_ok rfl mixed Tryd.func98 rfl rfl rfl (Nat.le_of_ble_eq_true rfl) rfl ?_; intro Γ C WK LP fin h0 hk0 hW hC hB hR hLP hfin
    (try (conv => whnf)); (repeat ((first | (with_reducible refine Fork.T (fun hc => ?_) ?_); (exfalso; first | omega | (simp [eqC, cellsI, idv, idl] at hc; first | done | omega) | contradiction) | (with_reducible refine Fork.F (fun hc => ?_) ?_); (exfalso; first | omega | (simp [eqC, cellsI, idv, idl] at hc; first | done | omega) | contradiction) | (with_reducible refine Owe.mk ?_ ?_); (first | omega | (unfold most; omega) | decide +kernel | exact Nat.le_of_ble_eq_true rfl | assumption | (simp [most]; omega)) | (with_reducible intro z hz); (first | (replace hz := hz (by omega); subst hz) | subst hz)); (try (conv => whnf))))
    refine Imms.mk _ rfl ?_
    (try (conv => whnf)); (repeat ((first | (with_reducible refine Fork.T (fun hc => ?_) ?_); (exfalso; first | omega | (simp [eqC, cellsI, idv, idl] at hc; first | done | omega) | contradiction) | (with_reducible refine Fork.F (fun hc => ?_) ?_); (exfalso; first | omega | (simp [eqC, cellsI, idv, idl] at hc; first | done | omega) | contradiction) | (with_reducible refine Owe.mk ?_ ?_); (first | omega | (unfold most; omega) | decide +kernel | exact Nat.le_of_ble_eq_true rfl | assumption | (simp [most]; omega)) | (with_reducible intro z hz); (first | (replace hz := hz (by omega); subst hz) | subst hz)); (try (conv => whnf))))
    refine CallB.mk ([.imm (.bool true)]) ([.box 1 [.row 2 2], .box 1 [.imm (.int .i64 id.x), .imm (.int .i64 id.y), .imm (.int .i64 id.z)], .row 72 2 2 (List.map spv (L1))]) (hB _ _ _ _ _ (hI)) ?_
    (try (conv => whnf)); (repeat ((first | (with_reducible refine Fork.T (fun hc => ?_) ?_); (exfalso; first | omega | (simp [eqC, cellsI, idv, idl] at hc; first | done | omega) | contradiction) | (with_reducible refine Fork.F (fun hc => ?_) ?_); (exfalso; first | omega | (simp [eqC, cellsI, idv, idl] at hc; first | done | omega) | contradiction) | (with_reducible refine Owe.mk ?_ ?_); (first | omega | (unfold most; omega) | decide +kernel | exact Nat.le_of_ble_eq_true rfl | assumption | (simp [most]; omega)) | (with_reducible intro z hz); (first | (replace hz := hz (by omega); subst hz) | subst hz)); (try (conv => whnf))))
    refine hLP _ _ _ Nat (fun k => ⟨[(1, .imm (.int .i64 (d : Nat))), (2, .clo 99 [.ptr 0 1 0, .ptr 1 1 0]), (15, .imm (.sl 8 (u.kids.map uv))), (16, .imm (.int .i64 (u.kids.length : Nat))), (17, .imm (.int .i64 (k : Nat)))], [.box 1 [.row 2 2], .box 1 [.imm (.int .i64 id.x), .imm (.int .i64 id.y), .imm (.int .i64 id.z)], .row 72 2 2 ((List.map spv ((visFs id (u.kids.take k) (d + 1) L1).2)).map .imm)]⟩) (fun k => k ≤ u.kids.length ∧ (visFs id (u.kids.take k) (d + 1) L1).1 = true) (fun k => u.kids.length - k) 0 ⟨Nat.zero_le _, rfl⟩ (((WeakA.row 2 (((visFs id (u.kids.take 0) (d + 1) L1).2.map spv).map .imm) rfl (by rfl))).trans (WeakA.slots 3 (by first | omega | (rw [h0]; exact Nat.le_of_ble_eq_true rfl)) rfl rfl (by first | (simp only [List.all_cons, List.all_nil, blkBelow, belowL_imm, belowL, belowB, Bool.and_true, Bool.true_and]; first | done | decide) | rfl | simp [blkBelow, belowB, belowL, belowL_imm]) (by (repeat ((conv => whnf); first | exact trivial | refine And.intro (by first | exact WkOne.any | exact WkOne.eq (by with_reducible rfl) rfl | exact WkOne.int (by first | omega | (simp; first | done | omega)) | exact WkOne.eq rfl rfl | exact WkOne.le rfl (ILe.nil _)) ?_))))) ?_
    rintro k ⟨hk, hpre⟩
    by_cases hlt : k < u.kids.length
    · obtain ⟨x, hx⟩ := at_k hlt
      have h1 := kid_lt' hx
      have hux := uv_eq x
      obtain ⟨g1, g2⟩ := visFs_true (by omega) hpre
      have g3 : max L1.length (d + 1 + Ut.counts (u.kids.take k)) = d + 1 + Ut.counts (u.kids.take k) := by omega
      rw [g3] at g2
      have hnx := visFs_take hx (d + 1) L1 hpre
      have hht := visFs_hit hx (d + 1) L1 hpre
      clear g3
      generalize hLk : (visFs id (u.kids.take k) (d + 1) L1).2 = Lk at g1 g2 hnx hht
      have hI2 := ih x Lk (d + 1) (by omega) g1 (by omega)
      rw [hux, show ((d + 1 : Nat) : Int) = (d : Int) + 1 by omega] at hI2
      cases hr : (visF id x (d + 1) Lk).1 with
      | true =>
        rw [hr] at hI2
        (try (conv => whnf)); (repeat ((first | (with_reducible refine Fork.T (fun hc => ?_) ?_); (exfalso; first | omega | (simp [eqC, cellsI, idv, idl] at hc; first | done | omega) | contradiction) | (with_reducible refine Fork.F (fun hc => ?_) ?_); (exfalso; first | omega | (simp [eqC, cellsI, idv, idl] at hc; first | done | omega) | contradiction) | (with_reducible refine Owe.mk ?_ ?_); (first | omega | (unfold most; omega) | decide +kernel | exact Nat.le_of_ble_eq_true rfl | assumption | (simp [most]; omega)) | (with_reducible intro z hz); (first | (replace hz := hz (by omega); subst hz) | subst hz)); (try (conv => whnf))))
        refine Idx.mk k (uv x) _ rfl (by simp [hx]) (by rw [hux]; try rfl) ?_
        (try (conv => whnf)); (repeat ((first | (with_reducible refine Fork.T (fun hc => ?_) ?_); (exfalso; first | omega | (simp [eqC, cellsI, idv, idl] at hc; first | done | omega) | contradiction) | (with_reducible refine Fork.F (fun hc => ?_) ?_); (exfalso; first | omega | (simp [eqC, cellsI, idv, idl] at hc; first | done | omega) | contradiction) | (with_reducible refine Owe.mk ?_ ?_); (first | omega | (unfold most; omega) | decide +kernel | exact Nat.le_of_ble_eq_true rfl | assumption | (simp [most]; omega)) | (with_reducible intro z hz); (first | (replace hz := hz (by omega); subst hz) | subst hz)); (try (conv => whnf))))
        refine Imms.mk _ rfl ?_
        (try (conv => whnf)); (repeat ((first | (with_reducible refine Fork.T (fun hc => ?_) ?_); (exfalso; first | omega | (simp [eqC, cellsI, idv, idl] at hc; first | done | omega) | contradiction) | (with_reducible refine Fork.F (fun hc => ?_) ?_); (exfalso; first | omega | (simp [eqC, cellsI, idv, idl] at hc; first | done | omega) | contradiction) | (with_reducible refine Owe.mk ?_ ?_); (first | omega | (unfold most; omega) | decide +kernel | exact Nat.le_of_ble_eq_true rfl | assumption | (simp [most]; omega)) | (with_reducible intro z hz); (first | (replace hz := hz (by omega); subst hz) | subst hz)); (try (conv => whnf))))
        refine CallB.mk ([.imm (.bool true)]) ([.box 1 [.row 2 2], .box 1 [.imm (.int .i64 id.x), .imm (.int .i64 id.y), .imm (.int .i64 id.z)], .row 72 2 2 (List.map spv ((visF id x (d + 1) Lk).2))]) (hB _ _ _ _ _ (hI2)) ?_
        (try (conv => whnf)); (repeat ((first | (with_reducible refine Fork.T (fun hc => ?_) ?_); (exfalso; first | omega | (simp [eqC, cellsI, idv, idl] at hc; first | done | omega) | contradiction) | (with_reducible refine Fork.F (fun hc => ?_) ?_); (exfalso; first | omega | (simp [eqC, cellsI, idv, idl] at hc; first | done | omega) | contradiction) | (with_reducible refine Owe.mk ?_ ?_); (first | omega | (unfold most; omega) | decide +kernel | exact Nat.le_of_ble_eq_true rfl | assumption | (simp [most]; omega)) | (with_reducible intro z hz); (first | (replace hz := hz (by omega); subst hz) | subst hz)); (try (conv => whnf))))
        exact ⟨k + 1, ⟨by omega, by rw [hnx]; exact hr⟩, by dsimp only; omega, ((WeakA.row 2 (((visFs id (u.kids.take (k + 1)) (d + 1) L1).2.map spv).map .imm) rfl (by rw [hnx]))).trans ((WeakA.renew 2 2 rfl (by first | omega | (intro _; rw [hk0 _ _ rfl]; exact Nat.le_of_ble_eq_true rfl)) (by repeat (first | exact trivial | refine And.intro (rgL_imms _ _ _ _) ?_ | refine And.intro rfl ?_))).trans (WeakA.slots 3 (by first | omega | (rw [h0]; exact Nat.le_of_ble_eq_true rfl)) rfl rfl (by first | (simp only [List.all_cons, List.all_nil, blkBelow, belowL_imm, belowL, belowB, Bool.and_true, Bool.true_and]; first | done | decide) | rfl | simp [blkBelow, belowB, belowL, belowL_imm]) (by (repeat ((conv => whnf); first | exact trivial | refine And.intro (by first | exact WkOne.any | exact WkOne.eq (by with_reducible rfl) rfl | exact WkOne.int (by first | omega | (simp; first | done | omega)) | exact WkOne.eq rfl rfl | exact WkOne.le rfl (ILe.nil _)) ?_)))))⟩
      | false =>
        rw [hr] at hI2
        (try (conv => whnf)); (repeat ((first | (with_reducible refine Fork.T (fun hc => ?_) ?_); (exfalso; first | omega | (simp [eqC, cellsI, idv, idl] at hc; first | done | omega) | contradiction) | (with_reducible refine Fork.F (fun hc => ?_) ?_); (exfalso; first | omega | (simp [eqC, cellsI, idv, idl] at hc; first | done | omega) | contradiction) | (with_reducible refine Owe.mk ?_ ?_); (first | omega | (unfold most; omega) | decide +kernel | exact Nat.le_of_ble_eq_true rfl | assumption | (simp [most]; omega)) | (with_reducible intro z hz); (first | (replace hz := hz (by omega); subst hz) | subst hz)); (try (conv => whnf))))
        refine Idx.mk k (uv x) _ rfl (by simp [hx]) (by rw [hux]; try rfl) ?_
        (try (conv => whnf)); (repeat ((first | (with_reducible refine Fork.T (fun hc => ?_) ?_); (exfalso; first | omega | (simp [eqC, cellsI, idv, idl] at hc; first | done | omega) | contradiction) | (with_reducible refine Fork.F (fun hc => ?_) ?_); (exfalso; first | omega | (simp [eqC, cellsI, idv, idl] at hc; first | done | omega) | contradiction) | (with_reducible refine Owe.mk ?_ ?_); (first | omega | (unfold most; omega) | decide +kernel | exact Nat.le_of_ble_eq_true rfl | assumption | (simp [most]; omega)) | (with_reducible intro z hz); (first | (replace hz := hz (by omega); subst hz) | subst hz)); (try (conv => whnf))))
        refine Imms.mk _ rfl ?_
        (try (conv => whnf)); (repeat ((first | (with_reducible refine Fork.T (fun hc => ?_) ?_); (exfalso; first | omega | (simp [eqC, cellsI, idv, idl] at hc; first | done | omega) | contradiction) | (with_reducible refine Fork.F (fun hc => ?_) ?_); (exfalso; first | omega | (simp [eqC, cellsI, idv, idl] at hc; first | done | omega) | contradiction) | (with_reducible refine Owe.mk ?_ ?_); (first | omega | (unfold most; omega) | decide +kernel | exact Nat.le_of_ble_eq_true rfl | assumption | (simp [most]; omega)) | (with_reducible intro z hz); (first | (replace hz := hz (by omega); subst hz) | subst hz)); (try (conv => whnf))))
        refine CallB.mk ([.imm (.bool false)]) ([.box 1 [.row 2 2], .box 1 [.imm (.int .i64 id.x), .imm (.int .i64 id.y), .imm (.int .i64 id.z)], .row 72 2 2 (List.map spv ((visF id x (d + 1) Lk).2))]) (hB _ _ _ _ _ (hI2)) ?_
        (try (conv => whnf)); (repeat ((first | (with_reducible refine Fork.T (fun hc => ?_) ?_); (exfalso; first | omega | (simp [eqC, cellsI, idv, idl] at hc; first | done | omega) | contradiction) | (with_reducible refine Fork.F (fun hc => ?_) ?_); (exfalso; first | omega | (simp [eqC, cellsI, idv, idl] at hc; first | done | omega) | contradiction) | (with_reducible refine Owe.mk ?_ ?_); (first | omega | (unfold most; omega) | decide +kernel | exact Nat.le_of_ble_eq_true rfl | assumption | (simp [most]; omega)) | (with_reducible intro z hz); (first | (replace hz := hz (by omega); subst hz) | subst hz)); (try (conv => whnf))))
        rw [hht hr, hr] at hfin
        exact hfin _ ((WeakA.renew 2 2 rfl (by first | omega | (intro _; rw [hk0 _ _ rfl]; exact Nat.le_of_ble_eq_true rfl)) (by repeat (first | exact trivial | refine And.intro (rgL_imms _ _ _ _) ?_ | refine And.intro rfl ?_))).trans (WeakA.slots 3 (by first | omega | (rw [h0]; exact Nat.le_of_ble_eq_true rfl)) rfl rfl (by first | (simp only [List.all_cons, List.all_nil, blkBelow, belowL_imm, belowL, belowB, Bool.and_true, Bool.true_and]; first | done | decide) | rfl | simp [blkBelow, belowB, belowL, belowL_imm]) (by (repeat ((conv => whnf); first | exact trivial | refine And.intro (by first | exact WkOne.any | exact WkOne.eq (by with_reducible rfl) rfl | exact WkOne.int (by first | omega | (simp; first | done | omega)) | exact WkOne.eq rfl rfl | exact WkOne.le rfl (ILe.nil _)) ?_)))))
    · (try (conv => whnf)); (repeat ((first | (with_reducible refine Fork.T (fun hc => ?_) ?_); (exfalso; first | omega | (simp [eqC, cellsI, idv, idl] at hc; first | done | omega) | contradiction) | (with_reducible refine Fork.F (fun hc => ?_) ?_); (exfalso; first | omega | (simp [eqC, cellsI, idv, idl] at hc; first | done | omega) | contradiction) | (with_reducible refine Owe.mk ?_ ?_); (first | omega | (unfold most; omega) | decide +kernel | exact Nat.le_of_ble_eq_true rfl | assumption | (simp [most]; omega)) | (with_reducible intro z hz); (first | (replace hz := hz (by omega); subst hz) | subst hz)); (try (conv => whnf))))
      obtain rfl : k = u.kids.length := by omega
      rw [List.take_length] at hpre
      rw [hpre] at hfin
      exact hfin _ (((WeakA.row 2 (((visFs id u.kids (d + 1) L1).2.map spv).map .imm) rfl (by rw [List.take_length]))).trans (WeakA.slots 3 (by first | omega | (rw [h0]; exact Nat.le_of_ble_eq_true rfl)) rfl rfl (by first | (simp only [List.all_cons, List.all_nil, blkBelow, belowL_imm, belowL, belowB, Bool.and_true, Bool.true_and]; first | done | decide) | rfl | simp [blkBelow, belowB, belowL, belowL_imm]) (by (repeat ((conv => whnf); first | exact trivial | refine And.intro (by first | exact WkOne.any | exact WkOne.eq (by with_reducible rfl) rfl | exact WkOne.int (by first | omega | (simp; first | done | omega)) | exact WkOne.eq rfl rfl | exact WkOne.le rfl (ILe.nil _)) ?_)))))
theorem full_pc (u : Ut) (id : Trip) (hc : u.count ≤ 10000) : PC Tryd.prog envU 57 [uv u, idv id] [.sl 2 ((wayA id u).map spv), .bool (inU id u)] := by
  have hI := fvisit_pcb id u.count u [] 0 (Nat.le_refl _) (Nat.le_refl _) (by simp; omega)
  obtain ⟨s1, s2, s3⟩ := visF_spec id u 0 [] (Nat.le_refl _)
  have hue := uv_eq u
  unfold wayA inU
  cases hl : linL id u with
  | nil =>
    rw [(s1 hl).1] at hI
    rw [hue] at hI ⊢
    refine PC.of_va (T := (tbk fun r => match r with | 2 => true | _ => false)) eqs2_ok tb_ok rfl mixed Tryd.func57 rfl rfl (Nat.le_of_ble_eq_true rfl) ?_; intro Γ C WK LP fin h0 hW hC hB hR hLP hfin
    (try (conv => whnf)); (repeat ((first | (with_reducible refine Fork.T (fun hc => ?_) ?_); (exfalso; first | omega | (simp [eqC, cellsI, idv, idl] at hc; first | done | omega) | contradiction) | (with_reducible refine Fork.F (fun hc => ?_) ?_); (exfalso; first | omega | (simp [eqC, cellsI, idv, idl] at hc; first | done | omega) | contradiction) | (with_reducible refine Owe.mk ?_ ?_); (first | omega | (unfold most; omega) | decide +kernel | exact Nat.le_of_ble_eq_true rfl | assumption | (simp [most]; omega)) | (with_reducible intro z hz); (first | (replace hz := hz (by omega); subst hz) | subst hz)); (try (conv => whnf))))
    refine hW _ _ _ ((WeakA.nilBox 2 0 72 2 rfl rfl)) ?_
    (try (conv => whnf)); (repeat ((first | (with_reducible refine Fork.T (fun hc => ?_) ?_); (exfalso; first | omega | (simp [eqC, cellsI, idv, idl] at hc; first | done | omega) | contradiction) | (with_reducible refine Fork.F (fun hc => ?_) ?_); (exfalso; first | omega | (simp [eqC, cellsI, idv, idl] at hc; first | done | omega) | contradiction) | (with_reducible refine Owe.mk ?_ ?_); (first | omega | (unfold most; omega) | decide +kernel | exact Nat.le_of_ble_eq_true rfl | assumption | (simp [most]; omega)) | (with_reducible intro z hz); (first | (replace hz := hz (by omega); subst hz) | subst hz)); (try (conv => whnf))))
    refine Imms.mk [] rfl ?_
    (try (conv => whnf)); (repeat ((first | (with_reducible refine Fork.T (fun hc => ?_) ?_); (exfalso; first | omega | (simp [eqC, cellsI, idv, idl] at hc; first | done | omega) | contradiction) | (with_reducible refine Fork.F (fun hc => ?_) ?_); (exfalso; first | omega | (simp [eqC, cellsI, idv, idl] at hc; first | done | omega) | contradiction) | (with_reducible refine Owe.mk ?_ ?_); (first | omega | (unfold most; omega) | decide +kernel | exact Nat.le_of_ble_eq_true rfl | assumption | (simp [most]; omega)) | (with_reducible intro z hz); (first | (replace hz := hz (by omega); subst hz) | subst hz)); (try (conv => whnf))))
    refine CallB.mk ([.imm (.bool true)]) ([.box 1 [.row 2 2], .box 1 [.imm (.int .i64 id.x), .imm (.int .i64 id.y), .imm (.int .i64 id.z)], .row 72 2 2 (List.map spv ((visF id u 0 []).2))]) (hB _ _ _ _ _ (hI)) ?_
    (try (conv => whnf)); (repeat ((first | (with_reducible refine Fork.T (fun hc => ?_) ?_); (exfalso; first | omega | (simp [eqC, cellsI, idv, idl] at hc; first | done | omega) | contradiction) | (with_reducible refine Fork.F (fun hc => ?_) ?_); (exfalso; first | omega | (simp [eqC, cellsI, idv, idl] at hc; first | done | omega) | contradiction) | (with_reducible refine Owe.mk ?_ ?_); (first | omega | (unfold most; omega) | decide +kernel | exact Nat.le_of_ble_eq_true rfl | assumption | (simp [most]; omega)) | (with_reducible intro z hz); (first | (replace hz := hz (by omega); subst hz) | subst hz)); (try (conv => whnf))))
    exact hfin _ ⟨_, _, rfl, ILe.nil _, ILes.refl _⟩
  | cons x r =>
    have hv := s2 (by rw [hl]; simp)
    rw [hv, hl] at hI
    have hlen : ((x :: r).reverse.map ustep).length = r.length + 1 := by simp
    rw [show (([] : List Stp).take 0 ++ (x :: r).reverse.map ustep) = (x :: r).reverse.map ustep from rfl] at hI
    show PC _ _ _ _ [.sl 2 ((bookS :: ((x :: r).reverse.map ustep).drop 1).map spv), .bool true]
    generalize (x :: r).reverse.map ustep = W at hI hlen ⊢
    obtain ⟨w0, W', rfl⟩ : ∃ w0 W', W = w0 :: W' := by
      cases W with
      | nil => simp at hlen
      | cons a b => exact ⟨a, b, rfl⟩
    have hml : (((w0 :: W').map spv).map PV.imm).length = r.length + 1 := by rw [List.length_map, List.length_map]; exact hlen
    have hrb : r.length ≤ 100000000 := by
      have := s3
      rw [hv] at this
      rw [hl] at this
      simp at this
      omega
    rw [hue] at hI ⊢
    refine PC.of_va (T := (tbk fun r => match r with | 2 => true | _ => false)) eqs2_ok tb_ok rfl mixed Tryd.func57 rfl rfl (Nat.le_of_ble_eq_true rfl) ?_; intro Γ C WK LP fin h0 hW hC hB hR hLP hfin
    (try (conv => whnf)); (repeat ((first | (with_reducible refine Fork.T (fun hc => ?_) ?_); (exfalso; first | omega | (simp [eqC, cellsI, idv, idl] at hc; first | done | omega) | contradiction) | (with_reducible refine Fork.F (fun hc => ?_) ?_); (exfalso; first | omega | (simp [eqC, cellsI, idv, idl] at hc; first | done | omega) | contradiction) | (with_reducible refine Owe.mk ?_ ?_); (first | omega | (unfold most; omega) | decide +kernel | exact Nat.le_of_ble_eq_true rfl | assumption | (simp [most]; omega)) | (with_reducible intro z hz); (first | (replace hz := hz (by omega); subst hz) | subst hz)); (try (conv => whnf))))
    refine hW _ _ _ ((WeakA.nilBox 2 0 72 2 rfl rfl)) ?_
    (try (conv => whnf)); (repeat ((first | (with_reducible refine Fork.T (fun hc => ?_) ?_); (exfalso; first | omega | (simp [eqC, cellsI, idv, idl] at hc; first | done | omega) | contradiction) | (with_reducible refine Fork.F (fun hc => ?_) ?_); (exfalso; first | omega | (simp [eqC, cellsI, idv, idl] at hc; first | done | omega) | contradiction) | (with_reducible refine Owe.mk ?_ ?_); (first | omega | (unfold most; omega) | decide +kernel | exact Nat.le_of_ble_eq_true rfl | assumption | (simp [most]; omega)) | (with_reducible intro z hz); (first | (replace hz := hz (by omega); subst hz) | subst hz)); (try (conv => whnf))))
    refine Imms.mk [] rfl ?_
    (try (conv => whnf)); (repeat ((first | (with_reducible refine Fork.T (fun hc => ?_) ?_); (exfalso; first | omega | (simp [eqC, cellsI, idv, idl] at hc; first | done | omega) | contradiction) | (with_reducible refine Fork.F (fun hc => ?_) ?_); (exfalso; first | omega | (simp [eqC, cellsI, idv, idl] at hc; first | done | omega) | contradiction) | (with_reducible refine Owe.mk ?_ ?_); (first | omega | (unfold most; omega) | decide +kernel | exact Nat.le_of_ble_eq_true rfl | assumption | (simp [most]; omega)) | (with_reducible intro z hz); (first | (replace hz := hz (by omega); subst hz) | subst hz)); (try (conv => whnf))))
    refine CallB.mk ([.imm (.bool false)]) ([.box 1 [.row 2 2], .box 1 [.imm (.int .i64 id.x), .imm (.int .i64 id.y), .imm (.int .i64 id.z)], .row 72 2 2 (List.map spv (w0 :: W'))]) (hB _ _ _ _ _ (hI)) ?_
    (try (conv => whnf)); (repeat ((first | (with_reducible refine Fork.T (fun hc => ?_) ?_); (exfalso; first | omega | (simp [eqC, cellsI, idv, idl] at hc; first | done | omega) | contradiction) | (with_reducible refine Fork.F (fun hc => ?_) ?_); (exfalso; first | omega | (simp [eqC, cellsI, idv, idl] at hc; first | done | omega) | contradiction) | (with_reducible refine Owe.mk ?_ ?_); (first | omega | (unfold most; omega) | decide +kernel | exact Nat.le_of_ble_eq_true rfl | assumption | (simp [most]; omega)) | (with_reducible intro z hz); (first | (replace hz := hz (by omega); subst hz) | subst hz)); (try (conv => whnf))))
    refine Pos.mk 0 (by omega) (by omega) ?_
    (try (conv => whnf)); (repeat ((first | (with_reducible refine Fork.T (fun hc => ?_) ?_); (exfalso; first | omega | (simp [eqC, cellsI, idv, idl] at hc; first | done | omega) | contradiction) | (with_reducible refine Fork.F (fun hc => ?_) ?_); (exfalso; first | omega | (simp [eqC, cellsI, idv, idl] at hc; first | done | omega) | contradiction) | (with_reducible refine Owe.mk ?_ ?_); (first | omega | (unfold most; omega) | decide +kernel | exact Nat.le_of_ble_eq_true rfl | assumption | (simp [most]; omega)) | (with_reducible intro z hz); (first | (replace hz := hz (by omega); subst hz) | subst hz)); (try (conv => whnf))))
    refine At.mk (.imm (spv w0)) rfl ?_
    (try (conv => whnf)); (repeat ((first | (with_reducible refine Fork.T (fun hc => ?_) ?_); (exfalso; first | omega | (simp [eqC, cellsI, idv, idl] at hc; first | done | omega) | contradiction) | (with_reducible refine Fork.F (fun hc => ?_) ?_); (exfalso; first | omega | (simp [eqC, cellsI, idv, idl] at hc; first | done | omega) | contradiction) | (with_reducible refine Owe.mk ?_ ?_); (first | omega | (unfold most; omega) | decide +kernel | exact Nat.le_of_ble_eq_true rfl | assumption | (simp [most]; omega)) | (with_reducible intro z hz); (first | (replace hz := hz (by omega); subst hz) | subst hz)); (try (conv => whnf))))
    refine Imms.mk ((bookS :: W').map spv) rfl ?_
    (try (conv => whnf)); (repeat ((first | (with_reducible refine Fork.T (fun hc => ?_) ?_); (exfalso; first | omega | (simp [eqC, cellsI, idv, idl] at hc; first | done | omega) | contradiction) | (with_reducible refine Fork.F (fun hc => ?_) ?_); (exfalso; first | omega | (simp [eqC, cellsI, idv, idl] at hc; first | done | omega) | contradiction) | (with_reducible refine Owe.mk ?_ ?_); (first | omega | (unfold most; omega) | decide +kernel | exact Nat.le_of_ble_eq_true rfl | assumption | (simp [most]; omega)) | (with_reducible intro z hz); (first | (replace hz := hz (by omega); subst hz) | subst hz)); (try (conv => whnf))))
    exact hfin _ (ILes.refl _)
theorem label_way {id : Trip} {u : Ut} (hL : ∀ x ∈ u.all, x.label.size ≤ 1000000) : ∀ s ∈ wayA id u, shortS s := by
  intro s hs
  by_cases h : linL id u = []
  · unfold wayA at hs
    rw [h] at hs
    cases hs
  · obtain ⟨r, h1, h2, h3⟩ := way_facts h
    rw [h1] at hs
    rcases List.mem_cons.1 hs with rfl | hs
    · show (ByteArray.mk #[]).size ≤ 1000000
      decide
    · obtain ⟨x, hx, rfl⟩ := List.mem_map.1 hs
      exact hL x (chain_in h2 x (List.mem_cons_of_mem _ hx))
theorem shortF_len (u : Ut) (full : List Stp) (k : Nat) : (shortF u full k).length ≤ full.length := by
  obtain ⟨j, _, h, _⟩ := short_facts u full k
  rw [h, List.length_drop]
  omega
theorem short_pc (u : Ut) (id : Trip) (hc : u.count ≤ 10000) (hL : ∀ x ∈ u.all, x.label.size ≤ 1000000) : PC Tryd.prog envU 58 [uv u, idv id] [.sl 2 ((shortA id u).map spv), .bool (inU id u)] := by
  have hF := full_pc u id hc
  have hue := uv_eq u
  have hlw := label_way (id := id) hL
  by_cases hin : linL id u = []
  · have hu : inU id u = false := by unfold inU; rw [hin]; rfl
    have hw : wayA id u = [] := by unfold wayA; rw [hin]
    have hs : shortA id u = [] := by unfold shortA; rw [hw]; rfl
    rw [hu, hw] at hF
    rw [hu, hs]
    rw [hue] at hF ⊢
    refine PC.of_va (T := tb0) eqs2_ok tb_ok rfl mixed Tryd.func58 rfl rfl (Nat.le_of_ble_eq_true rfl) ?_; intro Γ C WK LP fin h0 hW hC hB hR hLP hfin
    (try (conv => whnf)); (repeat ((first | (with_reducible refine Fork.T (fun hc => ?_) ?_); (exfalso; first | omega | (simp [eqC, cellsI, idv, idl] at hc; first | done | omega) | contradiction) | (with_reducible refine Fork.F (fun hc => ?_) ?_); (exfalso; first | omega | (simp [eqC, cellsI, idv, idl] at hc; first | done | omega) | contradiction) | (with_reducible refine Owe.mk ?_ ?_); (first | omega | (unfold most; omega) | decide +kernel | exact Nat.le_of_ble_eq_true rfl | assumption | (simp [most]; omega)) | (with_reducible intro z hz); (first | (replace hz := hz (by omega); subst hz) | subst hz)); (try (conv => whnf))))
    refine CallV.mk _ (hC _ _ _ (PCw.of (hF))) (fun js hjs => ?_); subst hjs
    (try (conv => whnf)); (repeat ((first | (with_reducible refine Fork.T (fun hc => ?_) ?_); (exfalso; first | omega | (simp [eqC, cellsI, idv, idl] at hc; first | done | omega) | contradiction) | (with_reducible refine Fork.F (fun hc => ?_) ?_); (exfalso; first | omega | (simp [eqC, cellsI, idv, idl] at hc; first | done | omega) | contradiction) | (with_reducible refine Owe.mk ?_ ?_); (first | omega | (unfold most; omega) | decide +kernel | exact Nat.le_of_ble_eq_true rfl | assumption | (simp [most]; omega)) | (with_reducible intro z hz); (first | (replace hz := hz (by omega); subst hz) | subst hz)); (try (conv => whnf))))
    exact hfin _ ⟨_, _, rfl, ILe.nil _, ILes.refl _⟩
  · have hu : inU id u = true := by
      unfold inU
      cases hq : linL id u with
      | nil => exact absurd hq hin
      | cons _ _ => rfl
    have hwl : 1 ≤ (wayA id u).length ∧ (wayA id u).length ≤ 100000000 := by
      obtain ⟨r, h1, h2, h3⟩ := way_facts hin
      have := chain_depth h2
      have h4 := depth_count u
      rw [h1]
      simp
      omega
    rw [hu] at hF ⊢
    unfold shortA
    generalize wayA id u = full at hF hlw hwl ⊢
    have hml : (full.map spv).length = full.length := List.length_map _
    rw [hue] at hF ⊢
    refine PC.of_va (T := tb0) eqs2_ok tb_ok rfl mixed Tryd.func58 rfl rfl (Nat.le_of_ble_eq_true rfl) ?_; intro Γ C WK LP fin h0 hW hC hB hR hLP hfin
    (try (conv => whnf)); (repeat ((first | (with_reducible refine Fork.T (fun hc => ?_) ?_); (exfalso; first | omega | (simp [eqC, cellsI, idv, idl] at hc; first | done | omega) | contradiction) | (with_reducible refine Fork.F (fun hc => ?_) ?_); (exfalso; first | omega | (simp [eqC, cellsI, idv, idl] at hc; first | done | omega) | contradiction) | (with_reducible refine Owe.mk ?_ ?_); (first | omega | (unfold most; omega) | decide +kernel | exact Nat.le_of_ble_eq_true rfl | assumption | (simp [most]; omega)) | (with_reducible intro z hz); (first | (replace hz := hz (by omega); subst hz) | subst hz)); (try (conv => whnf))))
    refine CallV.mk _ (hC _ _ _ (PCw.of (hF))) (fun js hjs => ?_); subst hjs
    (try (conv => whnf)); (repeat ((first | (with_reducible refine Fork.T (fun hc => ?_) ?_); (exfalso; first | omega | (simp [eqC, cellsI, idv, idl] at hc; first | done | omega) | contradiction) | (with_reducible refine Fork.F (fun hc => ?_) ?_); (exfalso; first | omega | (simp [eqC, cellsI, idv, idl] at hc; first | done | omega) | contradiction) | (with_reducible refine Owe.mk ?_ ?_); (first | omega | (unfold most; omega) | decide +kernel | exact Nat.le_of_ble_eq_true rfl | assumption | (simp [most]; omega)) | (with_reducible intro z hz); (first | (replace hz := hz (by omega); subst hz) | subst hz)); (try (conv => whnf))))
    refine hLP _ _ _ Nat (fun k => ⟨[(2, .ptr 0 1 0), (6, .imm (.sl 2 (full.map spv))), (8, .imm (.int .i64 (k : Nat)))], [.box 1 [.imm (.int .i64 u.id.x), .imm (.int .i64 u.id.y), .imm (.int .i64 u.id.z), .imm (.int .i64 u.kind), .imm (.str u.label), .imm (.sl 4 (u.head.map wdv)), .imm (.sl 4 (u.words.map wdv)), .imm (.sl 8 (u.kids.map uv))]]⟩) (fun k => k ≤ full.length - 1 ∧ shortF u full (full.length - 1) = shortF u full k) (fun k => k) (full.length - 1) ⟨Nat.le_refl _, rfl⟩ (WeakA.slots 1 (by first | omega | (rw [h0]; exact Nat.le_of_ble_eq_true rfl)) rfl rfl (by first | (simp only [List.all_cons, List.all_nil, blkBelow, belowL_imm, belowL, belowB, Bool.and_true, Bool.true_and]; first | done | decide) | rfl | simp [blkBelow, belowB, belowL, belowL_imm]) (by (repeat ((conv => whnf); first | exact trivial | refine And.intro (by first | exact WkOne.any | exact WkOne.eq (by with_reducible rfl) rfl | exact WkOne.int (by first | omega | (simp; first | done | omega)) | exact WkOne.eq rfl rfl | exact WkOne.le rfl (ILe.nil _)) ?_)))) ?_
    rintro k ⟨hk, hpre⟩
    cases k with
    | zero =>
      (try (conv => whnf)); (repeat ((first | (with_reducible refine Fork.T (fun hc => ?_) ?_); (exfalso; first | omega | (simp [eqC, cellsI, idv, idl] at hc; first | done | omega) | contradiction) | (with_reducible refine Fork.F (fun hc => ?_) ?_); (exfalso; first | omega | (simp [eqC, cellsI, idv, idl] at hc; first | done | omega) | contradiction) | (with_reducible refine Owe.mk ?_ ?_); (first | omega | (unfold most; omega) | decide +kernel | exact Nat.le_of_ble_eq_true rfl | assumption | (simp [most]; omega)) | (with_reducible intro z hz); (first | (replace hz := hz (by omega); subst hz) | subst hz)); (try (conv => whnf))))
      rw [hpre] at hfin
      exact hfin _ (ILes.refl _)
    | succ j =>
      have hj : j + 1 < full.length := by omega
      obtain ⟨s, hx⟩ := at_k hj
      have hB := isBook_pc s
      have hM := matches_pc u (full.drop (j + 1)) hc (fun t ht => hlw t (List.mem_of_mem_drop ht))
      have hdl : ((full.drop (j + 1)).map spv).length = full.length - (j + 1) := by simp
      have hd0 : (full.drop (j + 1))[0]? = some s := by rw [List.getElem?_drop]; simpa using hx
      have hhd : (full.drop (j + 1)).headD bookS = s := by
        cases hq : full.drop (j + 1) with
        | nil => rw [hq] at hd0; cases hd0
        | cons a b => rw [hq] at hd0; simpa using hd0
      have hsf : shortF u full (j + 1) = if (!bookB s && oneM u (full.drop (j + 1))) = true then full.drop (j + 1) else shortF u full j := by rw [shortF, hhd]
      have hul : ((unitsM u (full.drop (j + 1))).map uv).length = (unitsM u (full.drop (j + 1))).length := List.length_map _
      rw [hue, List.map_drop] at hM
      cases hb : bookB s with
      | true =>
        rw [hb] at hB hsf
        simp only [Bool.not_true, Bool.false_and, Bool.false_eq_true, if_false] at hsf
        (try (conv => whnf)); (repeat ((first | (with_reducible refine Fork.T (fun hc => ?_) ?_); (exfalso; first | omega | (simp [eqC, cellsI, idv, idl] at hc; first | done | omega) | contradiction) | (with_reducible refine Fork.F (fun hc => ?_) ?_); (exfalso; first | omega | (simp [eqC, cellsI, idv, idl] at hc; first | done | omega) | contradiction) | (with_reducible refine Owe.mk ?_ ?_); (first | omega | (unfold most; omega) | decide +kernel | exact Nat.le_of_ble_eq_true rfl | assumption | (simp [most]; omega)) | (with_reducible intro z hz); (first | (replace hz := hz (by omega); subst hz) | subst hz)); (try (conv => whnf))))
        refine Idx.mk 0 (spv s) _ rfl (by rw [List.getElem?_drop]; simp [hx]) rfl ?_
        (try (conv => whnf)); (repeat ((first | (with_reducible refine Fork.T (fun hc => ?_) ?_); (exfalso; first | omega | (simp [eqC, cellsI, idv, idl] at hc; first | done | omega) | contradiction) | (with_reducible refine Fork.F (fun hc => ?_) ?_); (exfalso; first | omega | (simp [eqC, cellsI, idv, idl] at hc; first | done | omega) | contradiction) | (with_reducible refine Owe.mk ?_ ?_); (first | omega | (unfold most; omega) | decide +kernel | exact Nat.le_of_ble_eq_true rfl | assumption | (simp [most]; omega)) | (with_reducible intro z hz); (first | (replace hz := hz (by omega); subst hz) | subst hz)); (try (conv => whnf))))
        refine CallV.mk _ (hC _ _ _ (PCw.of (hB))) (fun js hjs => ?_); subst hjs
        (try (conv => whnf)); (repeat ((first | (with_reducible refine Fork.T (fun hc => ?_) ?_); (exfalso; first | omega | (simp [eqC, cellsI, idv, idl] at hc; first | done | omega) | contradiction) | (with_reducible refine Fork.F (fun hc => ?_) ?_); (exfalso; first | omega | (simp [eqC, cellsI, idv, idl] at hc; first | done | omega) | contradiction) | (with_reducible refine Owe.mk ?_ ?_); (first | omega | (unfold most; omega) | decide +kernel | exact Nat.le_of_ble_eq_true rfl | assumption | (simp [most]; omega)) | (with_reducible intro z hz); (first | (replace hz := hz (by omega); subst hz) | subst hz)); (try (conv => whnf))))
        exact ⟨j, ⟨by omega, by rw [hpre, hsf]⟩, by dsimp only; omega, (WeakA.slots 1 (by first | omega | (rw [h0]; exact Nat.le_of_ble_eq_true rfl)) rfl rfl (by first | (simp only [List.all_cons, List.all_nil, blkBelow, belowL_imm, belowL, belowB, Bool.and_true, Bool.true_and]; first | done | decide) | rfl | simp [blkBelow, belowB, belowL, belowL_imm]) (by (repeat ((conv => whnf); first | exact trivial | refine And.intro (by first | exact WkOne.any | exact WkOne.eq (by with_reducible rfl) rfl | exact WkOne.int (by first | omega | (simp; first | done | omega)) | exact WkOne.eq rfl rfl | exact WkOne.le rfl (ILe.nil _)) ?_))))⟩
      | false =>
        rw [hb] at hB hsf
        by_cases h1 : (unitsM u (full.drop (j + 1))).length = 1
        · have ho : oneM u (full.drop (j + 1)) = true := by unfold oneM; exact decide_eq_true h1
          rw [ho] at hsf
          simp only [Bool.not_false, Bool.true_and, if_true] at hsf
          (try (conv => whnf)); (repeat ((first | (with_reducible refine Fork.T (fun hc => ?_) ?_); (exfalso; first | omega | (simp [eqC, cellsI, idv, idl] at hc; first | done | omega) | contradiction) | (with_reducible refine Fork.F (fun hc => ?_) ?_); (exfalso; first | omega | (simp [eqC, cellsI, idv, idl] at hc; first | done | omega) | contradiction) | (with_reducible refine Owe.mk ?_ ?_); (first | omega | (unfold most; omega) | decide +kernel | exact Nat.le_of_ble_eq_true rfl | assumption | (simp [most]; omega)) | (with_reducible intro z hz); (first | (replace hz := hz (by omega); subst hz) | subst hz)); (try (conv => whnf))))
          refine Idx.mk 0 (spv s) _ rfl (by rw [List.getElem?_drop]; simp [hx]) rfl ?_
          (try (conv => whnf)); (repeat ((first | (with_reducible refine Fork.T (fun hc => ?_) ?_); (exfalso; first | omega | (simp [eqC, cellsI, idv, idl] at hc; first | done | omega) | contradiction) | (with_reducible refine Fork.F (fun hc => ?_) ?_); (exfalso; first | omega | (simp [eqC, cellsI, idv, idl] at hc; first | done | omega) | contradiction) | (with_reducible refine Owe.mk ?_ ?_); (first | omega | (unfold most; omega) | decide +kernel | exact Nat.le_of_ble_eq_true rfl | assumption | (simp [most]; omega)) | (with_reducible intro z hz); (first | (replace hz := hz (by omega); subst hz) | subst hz)); (try (conv => whnf))))
          refine CallV.mk _ (hC _ _ _ (PCw.of (hB))) (fun js hjs => ?_); subst hjs
          (try (conv => whnf)); (repeat ((first | (with_reducible refine Fork.T (fun hc => ?_) ?_); (exfalso; first | omega | (simp [eqC, cellsI, idv, idl] at hc; first | done | omega) | contradiction) | (with_reducible refine Fork.F (fun hc => ?_) ?_); (exfalso; first | omega | (simp [eqC, cellsI, idv, idl] at hc; first | done | omega) | contradiction) | (with_reducible refine Owe.mk ?_ ?_); (first | omega | (unfold most; omega) | decide +kernel | exact Nat.le_of_ble_eq_true rfl | assumption | (simp [most]; omega)) | (with_reducible intro z hz); (first | (replace hz := hz (by omega); subst hz) | subst hz)); (try (conv => whnf))))
          refine CallV.mk _ (hC _ _ _ (PCw.of (hM))) (fun js hjs => ?_); subst hjs
          (try (conv => whnf)); (repeat ((first | (with_reducible refine Fork.T (fun hc => ?_) ?_); (exfalso; first | omega | (simp [eqC, cellsI, idv, idl] at hc; first | done | omega) | contradiction) | (with_reducible refine Fork.F (fun hc => ?_) ?_); (exfalso; first | omega | (simp [eqC, cellsI, idv, idl] at hc; first | done | omega) | contradiction) | (with_reducible refine Owe.mk ?_ ?_); (first | omega | (unfold most; omega) | decide +kernel | exact Nat.le_of_ble_eq_true rfl | assumption | (simp [most]; omega)) | (with_reducible intro z hz); (first | (replace hz := hz (by omega); subst hz) | subst hz)); (try (conv => whnf))))
          rw [hpre, hsf, List.map_drop] at hfin
          exact hfin _ (ILes.refl _)
        · have ho : oneM u (full.drop (j + 1)) = false := by unfold oneM; exact decide_eq_false h1
          rw [ho] at hsf
          simp only [Bool.not_false, Bool.true_and, Bool.false_eq_true, if_false] at hsf
          (try (conv => whnf)); (repeat ((first | (with_reducible refine Fork.T (fun hc => ?_) ?_); (exfalso; first | omega | (simp [eqC, cellsI, idv, idl] at hc; first | done | omega) | contradiction) | (with_reducible refine Fork.F (fun hc => ?_) ?_); (exfalso; first | omega | (simp [eqC, cellsI, idv, idl] at hc; first | done | omega) | contradiction) | (with_reducible refine Owe.mk ?_ ?_); (first | omega | (unfold most; omega) | decide +kernel | exact Nat.le_of_ble_eq_true rfl | assumption | (simp [most]; omega)) | (with_reducible intro z hz); (first | (replace hz := hz (by omega); subst hz) | subst hz)); (try (conv => whnf))))
          refine Idx.mk 0 (spv s) _ rfl (by rw [List.getElem?_drop]; simp [hx]) rfl ?_
          (try (conv => whnf)); (repeat ((first | (with_reducible refine Fork.T (fun hc => ?_) ?_); (exfalso; first | omega | (simp [eqC, cellsI, idv, idl] at hc; first | done | omega) | contradiction) | (with_reducible refine Fork.F (fun hc => ?_) ?_); (exfalso; first | omega | (simp [eqC, cellsI, idv, idl] at hc; first | done | omega) | contradiction) | (with_reducible refine Owe.mk ?_ ?_); (first | omega | (unfold most; omega) | decide +kernel | exact Nat.le_of_ble_eq_true rfl | assumption | (simp [most]; omega)) | (with_reducible intro z hz); (first | (replace hz := hz (by omega); subst hz) | subst hz)); (try (conv => whnf))))
          refine CallV.mk _ (hC _ _ _ (PCw.of (hB))) (fun js hjs => ?_); subst hjs
          (try (conv => whnf)); (repeat ((first | (with_reducible refine Fork.T (fun hc => ?_) ?_); (exfalso; first | omega | (simp [eqC, cellsI, idv, idl] at hc; first | done | omega) | contradiction) | (with_reducible refine Fork.F (fun hc => ?_) ?_); (exfalso; first | omega | (simp [eqC, cellsI, idv, idl] at hc; first | done | omega) | contradiction) | (with_reducible refine Owe.mk ?_ ?_); (first | omega | (unfold most; omega) | decide +kernel | exact Nat.le_of_ble_eq_true rfl | assumption | (simp [most]; omega)) | (with_reducible intro z hz); (first | (replace hz := hz (by omega); subst hz) | subst hz)); (try (conv => whnf))))
          refine CallV.mk _ (hC _ _ _ (PCw.of (hM))) (fun js hjs => ?_); subst hjs
          (try (conv => whnf)); (repeat ((first | (with_reducible refine Fork.T (fun hc => ?_) ?_); (exfalso; first | omega | (simp [eqC, cellsI, idv, idl] at hc; first | done | omega) | contradiction) | (with_reducible refine Fork.F (fun hc => ?_) ?_); (exfalso; first | omega | (simp [eqC, cellsI, idv, idl] at hc; first | done | omega) | contradiction) | (with_reducible refine Owe.mk ?_ ?_); (first | omega | (unfold most; omega) | decide +kernel | exact Nat.le_of_ble_eq_true rfl | assumption | (simp [most]; omega)) | (with_reducible intro z hz); (first | (replace hz := hz (by omega); subst hz) | subst hz)); (try (conv => whnf))))
          exact ⟨j, ⟨by omega, by rw [hpre, hsf]⟩, by dsimp only; omega, (WeakA.slots 1 (by first | omega | (rw [h0]; exact Nat.le_of_ble_eq_true rfl)) rfl rfl (by first | (simp only [List.all_cons, List.all_nil, blkBelow, belowL_imm, belowL, belowB, Bool.and_true, Bool.true_and]; first | done | decide) | rfl | simp [blkBelow, belowB, belowL, belowL_imm]) (by (repeat ((conv => whnf); first | exact trivial | refine And.intro (by first | exact WkOne.any | exact WkOne.eq (by with_reducible rfl) rfl | exact WkOne.int (by first | omega | (simp; first | done | omega)) | exact WkOne.eq rfl rfl | exact WkOne.le rfl (ILe.nil _)) ?_))))⟩
end Go.Proofs.YtbkbmeciaippmaaDoor.Pa

namespace Go.Proofs.YtbkbmeciaippmaaDoor.Pa
open Go Go.Pv Go.Proofs.YtbkbmeciaippmaaDoor.Pu
set_option linter.unusedSimpArgs false
open Lab Lcs Go.Proofs.YtbkbmeciaippmaaDoor Go.RowKit
set_option maxRecDepth 10000
set_option maxHeartbeats 16000000
def bkPara : Ut := .mk ⟨1, 0, 2⟩ 3 ⟨#[50]⟩ [] [] []
def bkOther : Ut := .mk ⟨1, 0, 4⟩ 2 ⟨#[54]⟩ [] [] []
def bkSec : Ut := .mk ⟨1, 0, 1⟩ 2 ⟨#[53]⟩ [] [] [bkPara]
def bkPart : Ut := .mk ⟨1, 0, 3⟩ 1 ⟨#[49]⟩ [] [] [bkOther]
def bookU : Ut := .mk ⟨0, 0, 0⟩ 0 ⟨#[]⟩ [] [] [bkSec, bkPart]
def pSec : Stp := ⟨2, ⟨#[53]⟩⟩
def pPara : Stp := ⟨3, ⟨#[50]⟩⟩
def idP : Trip := ⟨1, 0, 2⟩
theorem sSec : stepB pSec = true := by decide +kernel
theorem sPara : stepB pPara = true := by decide +kernel
theorem m_two : mayA [pSec, pPara] = true := may_steps (by decide) fun s hs => by
  rcases List.mem_cons.1 hs with rfl | hs
  · exact sSec
  · rw [List.mem_singleton.1 hs]; exact sPara
theorem m_one : mayA [pPara] = true := may_steps (by decide) fun s hs => by rw [List.mem_singleton.1 hs]; exact sPara
theorem m_full : mayA [bookS, pSec, pPara] = true := may_book (by decide) fun s hs => by
  rcases List.mem_cons.1 hs with rfl | hs
  · exact sSec
  · rw [List.mem_singleton.1 hs]; exact sPara
theorem u_two : unitsA bookU [pSec, pPara] = [bkPara] := rfl
theorem u_one : unitsA bookU [pPara] = [bkPara] := rfl
theorem one_book : oneA bookU [pSec, pPara] = (idP, 0) := by
  unfold oneA findA unitsM
  rw [if_pos m_two, u_two]
  rfl
theorem way_book : wayA idP bookU = [bookS, pSec, pPara] := rfl
theorem in_book : inU idP bookU = true := rfl
theorem short_book : shortA idP bookU = [pPara] := by
  unfold shortA
  rw [way_book]
  show shortF bookU [bookS, pSec, pPara] (1 + 1) = _
  rw [shortF, if_pos]
  · rfl
  · show (!bookB pPara && oneM bookU [pPara]) = true
    unfold oneM unitsM
    rw [if_pos m_one, u_one]
    decide +kernel
theorem t_one : textA [pPara] = ⟨#[112, 97, 114, 97, 103, 114, 97, 112, 104, 32, 50]⟩ := by
  unfold textA
  rw [if_pos m_one]
  decide +kernel
theorem t_full : textA [bookS, pSec, pPara] = ⟨#[98, 111, 111, 107, 32, 115, 101, 99, 116, 105, 111, 110, 32, 53, 32, 112, 97, 114, 97, 103, 114, 97, 112, 104, 32, 50]⟩ := by
  unfold textA
  rw [if_pos m_full]
  decide +kernel
theorem uv_para : uv bkPara = .agg [.int .i64 1, .int .i64 0, .int .i64 2, .int .i64 3, .str ⟨#[50]⟩, .sl 4 [], .sl 4 [], .sl 8 []] := uv_eq _
theorem uv_other : uv bkOther = .agg [.int .i64 1, .int .i64 0, .int .i64 4, .int .i64 2, .str ⟨#[54]⟩, .sl 4 [], .sl 4 [], .sl 8 []] := uv_eq _
theorem uv_sec : uv bkSec = .agg [.int .i64 1, .int .i64 0, .int .i64 1, .int .i64 2, .str ⟨#[53]⟩, .sl 4 [], .sl 4 [], .sl 8 [uv bkPara]] := uv_eq _
theorem uv_part : uv bkPart = .agg [.int .i64 1, .int .i64 0, .int .i64 3, .int .i64 1, .str ⟨#[49]⟩, .sl 4 [], .sl 4 [], .sl 8 [uv bkOther]] := uv_eq _
theorem uv_book : uv bookU = .agg [.int .i64 0, .int .i64 0, .int .i64 0, .int .i64 0, .str ⟨#[]⟩, .sl 4 [], .sl 4 [], .sl 8 [uv bkSec, uv bkPart]] := uv_eq _
theorem nils (a b c k : Int) (l : Str) {x y : IV} (h : ILe x y) : ILe (.agg [.int .i64 a, .int .i64 b, .int .i64 c, .int .i64 k, .str l, .nil, .nil, x]) (.agg [.int .i64 a, .int .i64 b, .int .i64 c, .int .i64 k, .str l, .sl 4 [], .sl 4 [], y]) :=
  ILes.agg (.cons (.refl _) (.cons (.refl _) (.cons (.refl _) (.cons (.refl _) (.cons (.refl _) (.cons (.nil 4) (.cons (.nil 4) (.cons h (.refl []))))))))) 
theorem row3 : ILe (.sl 8 [.agg [.int .i64 1, .int .i64 0, .int .i64 2, .int .i64 3, .str ⟨#[50]⟩, .nil, .nil, .nil]]) (.sl 8 [uv bkPara]) := by
  rw [uv_para]; exact ILes.sl (.cons (nils _ _ _ _ _ (.nil 8)) (.refl _))
theorem row4 : ILe (.sl 8 [.agg [.int .i64 1, .int .i64 0, .int .i64 4, .int .i64 2, .str ⟨#[54]⟩, .nil, .nil, .nil]]) (.sl 8 [uv bkOther]) := by
  rw [uv_other]; exact ILes.sl (.cons (nils _ _ _ _ _ (.nil 8)) (.refl _))
theorem row5 : ILe (.sl 8 [.agg [.int .i64 1, .int .i64 0, .int .i64 1, .int .i64 2, .str ⟨#[53]⟩, .nil, .nil, .sl 8 [uv bkPara]], .agg [.int .i64 1, .int .i64 0, .int .i64 3, .int .i64 1, .str ⟨#[49]⟩, .nil, .nil, .sl 8 [uv bkOther]]]) (.sl 8 [uv bkSec, uv bkPart]) := by
  rw [uv_sec, uv_part]; exact ILes.sl (.cons (nils _ _ _ _ _ (.refl _)) (.cons (nils _ _ _ _ _ (.refl _)) (.refl _)))
theorem book_pcb : PCB Tryd.prog envU 84 [] [] [.imm (.agg [.int .i64 0, .int .i64 0, .int .i64 0, .int .i64 0, .str ⟨#[]⟩, .nil, .nil, .sl 8 [uv bkSec, uv bkPart]])] [] := by
  refine PCB.of_va (T := tb0) eqs2_ok tb_ok rfl mixed Tryd.func84 rfl rfl rfl (Nat.le_of_ble_eq_true rfl) rfl ?_; intro Γ C WK LP fin h0 hk0 hW hC hB hR hLP hfin
  (try (conv => whnf)); (repeat ((first | (with_reducible refine Fork.T (fun hc => ?_) ?_); (exfalso; first | omega | (simp [eqC, cellsI, idv, idl] at hc; first | done | omega) | contradiction) | (with_reducible refine Fork.F (fun hc => ?_) ?_); (exfalso; first | omega | (simp [eqC, cellsI, idv, idl] at hc; first | done | omega) | contradiction) | (with_reducible refine Owe.mk ?_ ?_); (first | omega | (unfold most; omega) | decide +kernel | exact Nat.le_of_ble_eq_true rfl | assumption | (simp [most]; omega)) | (with_reducible intro z hz); (first | (replace hz := hz (by omega); subst hz) | subst hz)); (try (conv => whnf))))
  exact hfin _ ((WeakA.frz 3 [.agg [.int .i64 1, .int .i64 0, .int .i64 2, .int .i64 3, .str ⟨#[50]⟩, .nil, .nil, .nil]] rfl rfl row3).trans ((WeakA.frz 4 [.agg [.int .i64 1, .int .i64 0, .int .i64 4, .int .i64 2, .str ⟨#[54]⟩, .nil, .nil, .nil]] rfl rfl row4).trans ((WeakA.frz 5 [.agg [.int .i64 1, .int .i64 0, .int .i64 1, .int .i64 2, .str ⟨#[53]⟩, .nil, .nil, .sl 8 [uv bkPara]], .agg [.int .i64 1, .int .i64 0, .int .i64 3, .int .i64 1, .str ⟨#[49]⟩, .nil, .nil, .sl 8 [uv bkOther]]] rfl rfl row5).trans (WeakA.slots 0 (by first | omega | (rw [h0]; exact Nat.le_of_ble_eq_true rfl)) rfl rfl (by first | (simp only [List.all_cons, List.all_nil, blkBelow, belowL_imm, belowL, belowB, Bool.and_true, Bool.true_and]; first | done | decide) | rfl | simp [blkBelow, belowB, belowL, belowL_imm]) (by (repeat ((conv => whnf); first | exact trivial | refine And.intro (by first | exact WkOne.any | exact WkOne.eq (by with_reducible rfl) rfl | exact WkOne.int (by first | omega | (simp; first | done | omega)) | exact WkOne.eq rfl rfl | exact WkOne.le rfl (ILe.nil _)) ?_)))))))
theorem book_pc : PC Tryd.prog envU 84 [] [uv bookU] := PC.le (PCB.pc1 (args := []) book_pcb) (by rw [uv_book]; exact .cons (nils _ _ _ _ _ (.refl _)) (.refl _))
theorem c_book : bookU.count ≤ 10000 := by decide +kernel
theorem sh1 : shortS pSec := by unfold shortS; decide +kernel
theorem sh2 : shortS pPara := by unfold shortS; decide +kernel
theorem sh3 : shortS bookS := by unfold shortS; decide +kernel
theorem s_two : ∀ s ∈ [pSec, pPara], shortS s := by simp [sh1, sh2]
theorem awake_pc : PC Tryd.prog envU 41 [] [.bool true] := by
  have hBk := book_pc
  have hO := findOne_pc bookU [pSec, pPara] c_book s_two
  have hS := short_pc bookU idP c_book (by decide +kernel)
  have hF := full_pc bookU idP c_book
  have hT := format_pc [pPara] (by simp [sh2])
  have hT2 := format_pc [bookS, pSec, pPara] (by simp [sh1, sh2, sh3])
  rw [one_book] at hO
  rw [short_book, in_book] at hS
  rw [way_book, in_book] at hF
  rw [t_one] at hT
  rw [t_full] at hT2
  rw [uv_eq] at hO hS hF hBk
  refine PC.of_va (T := tb0) eqs2_ok tb_ok rfl mixed Tryd.func41 rfl rfl (Nat.le_of_ble_eq_true rfl) ?_; intro Γ C WK LP fin h0 hW hC hB hR hLP hfin
  (try (conv => whnf)); (repeat ((first | (with_reducible refine Fork.T (fun hc => ?_) ?_); (exfalso; first | omega | (simp [eqC, cellsI, idv, idl] at hc; first | done | omega) | contradiction) | (with_reducible refine Fork.F (fun hc => ?_) ?_); (exfalso; first | omega | (simp [eqC, cellsI, idv, idl] at hc; first | done | omega) | contradiction) | (with_reducible refine Owe.mk ?_ ?_); (first | omega | (unfold most; omega) | decide +kernel | exact Nat.le_of_ble_eq_true rfl | assumption | (simp [most]; omega)) | (with_reducible intro z hz); (first | (replace hz := hz (by omega); subst hz) | subst hz)); (try (conv => whnf))))
  refine CallV.mk _ (hC _ _ _ (PCw.of (hBk))) (fun js hjs => ?_); subst hjs
  (try (conv => whnf)); (repeat ((first | (with_reducible refine Fork.T (fun hc => ?_) ?_); (exfalso; first | omega | (simp [eqC, cellsI, idv, idl] at hc; first | done | omega) | contradiction) | (with_reducible refine Fork.F (fun hc => ?_) ?_); (exfalso; first | omega | (simp [eqC, cellsI, idv, idl] at hc; first | done | omega) | contradiction) | (with_reducible refine Owe.mk ?_ ?_); (first | omega | (unfold most; omega) | decide +kernel | exact Nat.le_of_ble_eq_true rfl | assumption | (simp [most]; omega)) | (with_reducible intro z hz); (first | (replace hz := hz (by omega); subst hz) | subst hz)); (try (conv => whnf))))
  refine Imms.mk ([pSec, pPara].map spv) rfl ?_
  (try (conv => whnf)); (repeat ((first | (with_reducible refine Fork.T (fun hc => ?_) ?_); (exfalso; first | omega | (simp [eqC, cellsI, idv, idl] at hc; first | done | omega) | contradiction) | (with_reducible refine Fork.F (fun hc => ?_) ?_); (exfalso; first | omega | (simp [eqC, cellsI, idv, idl] at hc; first | done | omega) | contradiction) | (with_reducible refine Owe.mk ?_ ?_); (first | omega | (unfold most; omega) | decide +kernel | exact Nat.le_of_ble_eq_true rfl | assumption | (simp [most]; omega)) | (with_reducible intro z hz); (first | (replace hz := hz (by omega); subst hz) | subst hz)); (try (conv => whnf))))
  refine CallV.mk _ (hC _ _ _ (PCw.of (hO))) (fun js hjs => ?_); subst hjs
  (try (conv => whnf)); (repeat ((first | (with_reducible refine Fork.T (fun hc => ?_) ?_); (exfalso; first | omega | (simp [eqC, cellsI, idv, idl] at hc; first | done | omega) | contradiction) | (with_reducible refine Fork.F (fun hc => ?_) ?_); (exfalso; first | omega | (simp [eqC, cellsI, idv, idl] at hc; first | done | omega) | contradiction) | (with_reducible refine Owe.mk ?_ ?_); (first | omega | (unfold most; omega) | decide +kernel | exact Nat.le_of_ble_eq_true rfl | assumption | (simp [most]; omega)) | (with_reducible intro z hz); (first | (replace hz := hz (by omega); subst hz) | subst hz)); (try (conv => whnf))))
  refine CallV.mk _ (hC _ _ _ (PCw.of (hBk))) (fun js hjs => ?_); subst hjs
  (try (conv => whnf)); (repeat ((first | (with_reducible refine Fork.T (fun hc => ?_) ?_); (exfalso; first | omega | (simp [eqC, cellsI, idv, idl] at hc; first | done | omega) | contradiction) | (with_reducible refine Fork.F (fun hc => ?_) ?_); (exfalso; first | omega | (simp [eqC, cellsI, idv, idl] at hc; first | done | omega) | contradiction) | (with_reducible refine Owe.mk ?_ ?_); (first | omega | (unfold most; omega) | decide +kernel | exact Nat.le_of_ble_eq_true rfl | assumption | (simp [most]; omega)) | (with_reducible intro z hz); (first | (replace hz := hz (by omega); subst hz) | subst hz)); (try (conv => whnf))))
  refine CallV.mk _ (hC _ _ _ (PCw.of (hS))) (fun js hjs => ?_); subst hjs
  (try (conv => whnf)); (repeat ((first | (with_reducible refine Fork.T (fun hc => ?_) ?_); (exfalso; first | omega | (simp [eqC, cellsI, idv, idl] at hc; first | done | omega) | contradiction) | (with_reducible refine Fork.F (fun hc => ?_) ?_); (exfalso; first | omega | (simp [eqC, cellsI, idv, idl] at hc; first | done | omega) | contradiction) | (with_reducible refine Owe.mk ?_ ?_); (first | omega | (unfold most; omega) | decide +kernel | exact Nat.le_of_ble_eq_true rfl | assumption | (simp [most]; omega)) | (with_reducible intro z hz); (first | (replace hz := hz (by omega); subst hz) | subst hz)); (try (conv => whnf))))
  refine CallV.mk _ (hC _ _ _ (PCw.of (hBk))) (fun js hjs => ?_); subst hjs
  (try (conv => whnf)); (repeat ((first | (with_reducible refine Fork.T (fun hc => ?_) ?_); (exfalso; first | omega | (simp [eqC, cellsI, idv, idl] at hc; first | done | omega) | contradiction) | (with_reducible refine Fork.F (fun hc => ?_) ?_); (exfalso; first | omega | (simp [eqC, cellsI, idv, idl] at hc; first | done | omega) | contradiction) | (with_reducible refine Owe.mk ?_ ?_); (first | omega | (unfold most; omega) | decide +kernel | exact Nat.le_of_ble_eq_true rfl | assumption | (simp [most]; omega)) | (with_reducible intro z hz); (first | (replace hz := hz (by omega); subst hz) | subst hz)); (try (conv => whnf))))
  refine CallV.mk _ (hC _ _ _ (PCw.of (hF))) (fun js hjs => ?_); subst hjs
  (try (conv => whnf)); (repeat ((first | (with_reducible refine Fork.T (fun hc => ?_) ?_); (exfalso; first | omega | (simp [eqC, cellsI, idv, idl] at hc; first | done | omega) | contradiction) | (with_reducible refine Fork.F (fun hc => ?_) ?_); (exfalso; first | omega | (simp [eqC, cellsI, idv, idl] at hc; first | done | omega) | contradiction) | (with_reducible refine Owe.mk ?_ ?_); (first | omega | (unfold most; omega) | decide +kernel | exact Nat.le_of_ble_eq_true rfl | assumption | (simp [most]; omega)) | (with_reducible intro z hz); (first | (replace hz := hz (by omega); subst hz) | subst hz)); (try (conv => whnf))))
  refine CallV.mk _ (hC _ _ _ (PCw.of (hT))) (fun js hjs => ?_); subst hjs
  (try (conv => whnf)); (repeat ((first | (with_reducible refine Fork.T (fun hc => ?_) ?_); (exfalso; first | omega | (simp [eqC, cellsI, idv, idl] at hc; first | done | omega) | contradiction) | (with_reducible refine Fork.F (fun hc => ?_) ?_); (exfalso; first | omega | (simp [eqC, cellsI, idv, idl] at hc; first | done | omega) | contradiction) | (with_reducible refine Owe.mk ?_ ?_); (first | omega | (unfold most; omega) | decide +kernel | exact Nat.le_of_ble_eq_true rfl | assumption | (simp [most]; omega)) | (with_reducible intro z hz); (first | (replace hz := hz (by omega); subst hz) | subst hz)); (try (conv => whnf))))
  refine CallV.mk _ (hC _ _ _ (PCw.of (hT2))) (fun js hjs => ?_); subst hjs
  (try (conv => whnf)); (repeat ((first | (with_reducible refine Fork.T (fun hc => ?_) ?_); (exfalso; first | omega | (simp [eqC, cellsI, idv, idl] at hc; first | done | omega) | contradiction) | (with_reducible refine Fork.F (fun hc => ?_) ?_); (exfalso; first | omega | (simp [eqC, cellsI, idv, idl] at hc; first | done | omega) | contradiction) | (with_reducible refine Owe.mk ?_ ?_); (first | omega | (unfold most; omega) | decide +kernel | exact Nat.le_of_ble_eq_true rfl | assumption | (simp [most]; omega)) | (with_reducible intro z hz); (first | (replace hz := hz (by omega); subst hz) | subst hz)); (try (conv => whnf))))
  exact hfin _ (ILes.refl _)
end Go.Proofs.YtbkbmeciaippmaaDoor.Pa
