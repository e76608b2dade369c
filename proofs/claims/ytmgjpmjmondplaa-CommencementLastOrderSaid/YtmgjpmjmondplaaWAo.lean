/-
  Arguments that came in: starts, instructions, enacted items and slices of them.
-/
import Derived.Test.YtmgjpmjmondplaaWAb
namespace Go.Proofs.Ytmgjpmjmondplaa.Pe
open Go Go.Pv Go.RowKit
set_option linter.unusedSimpArgs false
set_option maxRecDepth 100000
def S0 : List TypeId := [3, 9, 38, 130, 132, 39, 42, 40, 128, 36, 43, 23, 46, 44, 49, 24]
theorem S0_ok : closed Try.prog S0 = true := by kernel_rfl
theorem agg_en : aggT Try.prog 49 = true := by kernel_rfl
theorem c_en : Try.prog.cellsOf 49 = 28 := by kernel_rfl
theorem unit8 {is : List IV} (h : OkC Try.prog 42 is) : ∃ a b c d e f g k : IV, is = [a, b, c, d, e, f, g, k] := by
 obtain ⟨parts, rfl, hl, hp⟩ := h.strct_inv Try.underlying42
 match parts, hl with
 | [p0, p1, p2, p3, p4, p5], _ =>
   obtain ⟨qs, rfl, hql, hq⟩ := (hp 0 _ _ rfl rfl).strct_inv Try.underlying38
   obtain ⟨d, rfl⟩ := (hp 1 _ _ rfl rfl).len1 (by kernel_rfl)
   obtain ⟨e, rfl⟩ := (hp 2 _ _ rfl rfl).len1 (by kernel_rfl)
   obtain ⟨f, rfl⟩ := (hp 3 _ _ rfl rfl).len1 (by kernel_rfl)
   obtain ⟨g, rfl⟩ := (hp 4 _ _ rfl rfl).len1 (by kernel_rfl)
   obtain ⟨k, rfl⟩ := (hp 5 _ _ rfl rfl).len1 (by kernel_rfl)
   match qs, hql with
   | [q0, q1, q2], _ =>
     obtain ⟨a, rfl⟩ := (hq 0 _ _ rfl rfl).len1 (by kernel_rfl)
     obtain ⟨b, rfl⟩ := (hq 1 _ _ rfl rfl).len1 (by kernel_rfl)
     obtain ⟨c, rfl⟩ := (hq 2 _ _ rfl rfl).len1 (by kernel_rfl)
     exact ⟨a, b, c, d, e, f, g, k, rfl⟩
def FitS (x : St) : Prop := x.e.size ≤ maxLen
def FitI (x : Im) : Prop := FitS x.st ∧ x.ev.size ≤ maxLen
theorem start_of {is : List IV} (h : OkC Try.prog 23 is) : ∃ x : St, is = [.int .i64 x.k, .int .i64 x.d, .str x.e] ∧ FitS x := by
 obtain ⟨parts, rfl, hl, hp⟩ := h.strct_inv Try.underlying23
 match parts, hl with
 | [p0, p1, p2], _ =>
   obtain ⟨k, rfl, _⟩ := (hp 0 _ _ rfl rfl).int_inv Try.underlying3
   obtain ⟨d, rfl, _⟩ := (hp 1 _ _ rfl rfl).int_inv Try.underlying3
   obtain ⟨e, rfl, h0⟩ := (hp 2 _ _ rfl rfl).str_inv Try.underlying9
   exact ⟨⟨k, d, e⟩, rfl, h0⟩
theorem item_of {is : List IV} (h : OkC Try.prog 46 is) : ∃ x : Im, IV.agg is = imv x ∧ FitI x := by
 obtain ⟨parts, rfl, hl, hp⟩ := h.strct_inv Try.underlying46
 match parts, hl with
 | [p0, p1, p2, p3, p4, p5, p6, p7, p8, p9, p10, p11, p12, p13, p14, p15], _ =>
   obtain ⟨k, rfl, _⟩ := (hp 0 _ _ rfl rfl).int_inv Try.underlying3
   obtain ⟨x1, rfl⟩ := (hp 1 _ _ rfl rfl).len1 (by kernel_rfl)
   obtain ⟨x2, rfl⟩ := (hp 2 _ _ rfl rfl).len1 (by kernel_rfl)
   obtain ⟨x3, rfl⟩ := (hp 3 _ _ rfl rfl).len1 (by kernel_rfl)
   obtain ⟨x4, rfl⟩ := (hp 4 _ _ rfl rfl).len1 (by kernel_rfl)
   obtain ⟨y1, y2, y3, y4, y5, y6, y7, y8, rfl⟩ := unit8 (hp 5 _ _ rfl rfl)
   obtain ⟨x6, rfl⟩ := (hp 6 _ _ rfl rfl).len1 (by kernel_rfl)
   obtain ⟨x7, rfl⟩ := (hp 7 _ _ rfl rfl).len1 (by kernel_rfl)
   obtain ⟨x8, rfl⟩ := (hp 8 _ _ rfl rfl).len1 (by kernel_rfl)
   obtain ⟨x9, rfl⟩ := (hp 9 _ _ rfl rfl).len1 (by kernel_rfl)
   obtain ⟨st, rfl, hs⟩ := start_of (hp 10 _ _ rfl rfl)
   obtain ⟨a, rfl, _⟩ := (hp 11 _ _ rfl rfl).int_inv Try.underlying3
   obtain ⟨i, rfl, _⟩ := (hp 12 _ _ rfl rfl).int_inv Try.underlying3
   obtain ⟨d, rfl, _⟩ := (hp 13 _ _ rfl rfl).int_inv Try.underlying3
   obtain ⟨ev, rfl, he⟩ := (hp 14 _ _ rfl rfl).str_inv Try.underlying9
   obtain ⟨b, rfl⟩ := (hp 15 _ _ rfl rfl).len1 (by kernel_rfl)
   exact ⟨⟨k, fun n => ([.nil, x1, x2, x3, x4, y1, y2, y3, y4, y5, y6, y7, y8, x6, x7, x8, x9] : List IV).getD n .nil, st, a, i, d, ev, b⟩, rfl, hs, he⟩
theorem imv_en {is : List IV} {x : Im} (h : IV.agg is = imv x) (a b c : Int) : IV.agg (.int .i64 a :: .int .i64 b :: .int .i64 c :: is) = env1 ⟨a, b, c, x⟩ := by
 unfold imv at h
 injection h with h
 subst h
 rfl
theorem en_of {is : List IV} (h : OkC Try.prog 49 is) : ∃ x : En, IV.agg is = env1 x ∧ FitI x.it := by
 obtain ⟨parts, rfl, hl, hp⟩ := h.strct_inv Try.underlying49
 match parts, hl with
 | [p0, p1, p2, p3], _ =>
   obtain ⟨a, rfl, _⟩ := (hp 0 _ _ rfl rfl).int_inv Try.underlying3
   obtain ⟨b, rfl, _⟩ := (hp 1 _ _ rfl rfl).int_inv Try.underlying3
   obtain ⟨c, rfl, _⟩ := (hp 2 _ _ rfl rfl).int_inv Try.underlying3
   obtain ⟨x, hx, hf⟩ := item_of (hp 3 _ _ rfl rfl)
   refine ⟨⟨a, b, c, x⟩, ?_, hf⟩
   have := imv_en hx a b c
   simpa using this
section
variable {H : Type} {enc : TypeId × Value → H} {w : World} {bs : Nat} {spare : Nat → Bool} {held : Bool}
theorem start_open {cs : Array Value} {d : DataW H} {p : List MemPlace} (h : ∃ fuel, DataW.trod enc Try.prog w bs spare held fuel 23 cs.toList = some (d, p)) :
   ∃ x : St, RepI (fun b => b < w.heap.size) w (stv x) (.agg cs) ∧ FitS x := by
 obtain ⟨fuel, h⟩ := h
 obtain ⟨is, h1, h2⟩ := open_cells S0_ok fuel 23 cs.toList _ (by decide) h
 obtain ⟨x, rfl, h4⟩ := start_of h2
 refine ⟨x, ?_, h4⟩
 unfold stv
 rw [RepI_agg]
 exact ⟨_, by simp, h1⟩
theorem en_open {cs : Array Value} {d : DataW H} {p : List MemPlace} (h : ∃ fuel, DataW.trod enc Try.prog w bs spare held fuel 49 cs.toList = some (d, p)) :
   ∃ x : En, RepI (fun b => b < w.heap.size) w (env1 x) (.agg cs) ∧ FitI x.it := by
 obtain ⟨fuel, h⟩ := h
 obtain ⟨is, h1, h2⟩ := open_cells S0_ok fuel 49 cs.toList _ (by decide) h
 obtain ⟨x, h3, h4⟩ := en_of h2
 refine ⟨x, ?_, h4⟩
 rw [← h3, RepI_agg]
 exact ⟨_, by simp, h1⟩
theorem ens_open {a : Option Addr} {n c : Nat} {d : DataW H} {p : List MemPlace} (h : ∃ fuel, DataW.trod enc Try.prog w bs spare held fuel 24 (Value.slice a n c).cells.toList = some (d, p)) :
   ∃ L : List En, RepI (fun b => b < w.heap.size) w (.sl 28 (L.map env1)) (.slice a n c) ∧ L.length ≤ 9223372036854775807 ∧ ∀ x ∈ L, FitI x.it := by
 obtain ⟨css, h1, h2, h3⟩ := open_sl S0_ok (by decide) Try.underlying24 h
 obtain ⟨L, h4, h5, h6⟩ := elems_of (f := env1) (ok := fun x => FitI x.it) (fun cs hcs => by
   obtain ⟨x, hx, hf⟩ := en_of hcs
   exact ⟨x, by rw [agg_en, ← hx]; rfl, hf⟩) css h3
 rw [h4, c_en] at h1
 exact ⟨L, h1, by unfold maxLen at h2; omega, h6⟩
theorem slice_bytes {t e : TypeId} {a : Option Addr} {n c : Nat} {d : DataW H} {p : List MemPlace} {m : Nat} (hu : Try.prog.underlying t = some (.slice e)) (h : ∃ fuel, DataW.trod enc Try.prog w bs spare held fuel t (Value.slice a n c).cells.toList = some (d, p)) (hm : ∀ k ∈ d.weights Try.prog t, k ≤ m) : n * Try.prog.bytesOf e ≤ m := by
 obtain ⟨fuel, hf⟩ := h
 rcases DataW.trod_slice hu hf with ⟨h1, _⟩ | ⟨a', len, cap, elems, rest, k, _, h1, hx, _, _, _, hel, _⟩
 · simp only [Value.cells] at h1
   injection h1 with h1
   injection h1 with _ h1
   subst h1
   omega
 · simp only [Value.cells] at h1
   injection h1 with h1
   injection h1 with _ h1
   injection hx with hx _
   have := hm ((elems.length + rest.length) * Try.prog.bytesOf e) (by rw [hx]; simp [DataW.weights, hu])
   subst h1
   refine Nat.le_trans (Nat.mul_le_mul_right _ ?_) this
   omega
theorem ensW_open {a : Option Addr} {n c : Nat} {d : DataW H} {p : List MemPlace} (h : ∃ fuel, DataW.trod enc Try.prog w bs spare held fuel 24 (Value.slice a n c).cells.toList = some (d, p)) (hm : ∀ k ∈ d.weights Try.prog 24, k ≤ reachBytes) :
   ∃ L : List En, RepI (fun b => b < w.heap.size) w (.sl 28 (L.map env1)) (.slice a n c) ∧ L.length * 392 ≤ 140737488351232 ∧ ∀ x ∈ L, FitI x.it := by
 obtain ⟨L, h1, h2, h3⟩ := ens_open h
 refine ⟨L, h1, ?_, h3⟩
 have hb := slice_bytes Try.underlying24 h hm
 have hl : n = L.length := by
   unfold RepI at h1
   obtain ⟨_, _, e, _⟩ := h1
   injection e with _ e
   simpa using e
 rw [hl, show Try.prog.bytesOf 49 = 392 by kernel_rfl] at hb
 exact Nat.le_trans hb (by decide)
end
end Go.Proofs.Ytmgjpmjmondplaa.Pe
