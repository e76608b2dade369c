/-
  Arguments that came in: words, strings; the laws for them.
-/
import Derived.Test.YtckamfmllkpafaaWWj
namespace Go.Proofs.Ytckamfmllkpafaa.Pw
open Go Go.Pv Go.RowKit Go.Proofs.Ytckamfmllkpafaa.Pu Go.Proofs.Ytckamfmllkpafaa.Pb
set_option linter.unusedSimpArgs false
open Lab Lcs Go.Proofs.Ytckamfmllkpafaa
set_option maxRecDepth 100000
def S0 : List TypeId := [3, 9, 47, 49, 24, 34]
theorem S0_ok : closed Try.prog S0 = true := by kernel_rfl
theorem agg_word : aggT Try.prog 49 = true := by kernel_rfl
theorem agg_string : aggT Try.prog 9 = false := by kernel_rfl
theorem c_word : Try.prog.cellsOf 49 = 4 := by kernel_rfl
theorem c_str : Try.prog.cellsOf 9 = 1 := by kernel_rfl
theorem word_of {is : List IV} (h : OkC Try.prog 49 is) : ∃ a : Wd, IV.agg is = wdv a := by
 obtain ⟨parts, rfl, hl, hp⟩ := h.strct_inv Try.underlying49
 match parts, hl with
 | [p0, p1], _ =>
   obtain ⟨s, rfl, _⟩ := (hp 0 _ _ rfl rfl).str_inv Try.underlying9
   obtain ⟨qs, rfl, hql, hq⟩ := (hp 1 _ _ rfl rfl).strct_inv Try.underlying47
   match qs, hql with
   | [q0, q1, q2], _ =>
     obtain ⟨x, rfl, _⟩ := (hq 0 _ _ rfl rfl).int_inv Try.underlying3
     obtain ⟨y, rfl, _⟩ := (hq 1 _ _ rfl rfl).int_inv Try.underlying3
     obtain ⟨z, rfl, _⟩ := (hq 2 _ _ rfl rfl).int_inv Try.underlying3
     exact ⟨⟨s, ⟨x, y, z⟩⟩, rfl⟩
section
variable {H : Type} {enc : TypeId × Value → H} {w : World} {bs : Nat} {spare : Nat → Bool} {held : Bool}
theorem words_open {a : Option Addr} {n c : Nat} {d : DataW H} {p : List MemPlace} (h : ∃ fuel, DataW.trod enc Try.prog w bs spare held fuel 24 (Value.slice a n c).cells.toList = some (d, p)) :
   ∃ L : List Wd, RepI (fun b => b < w.heap.size) w (.sl 4 (L.map wdv)) (.slice a n c) ∧ L.length ≤ 9223372036854775807 := by
 obtain ⟨css, h1, h2, h3⟩ := open_sl S0_ok (by decide) Try.underlying24 h
 obtain ⟨L, h4, h5, _⟩ := elems_of (f := wdv) (ok := fun _ => True) (fun cs hcs => by
   obtain ⟨x, hx⟩ := word_of hcs
   exact ⟨x, by rw [agg_word, ← hx]; rfl, trivial⟩) css h3
 rw [h4, c_word] at h1
 exact ⟨L, h1, by unfold maxLen at h2; omega⟩
theorem strs_open {a : Option Addr} {n c : Nat} {d : DataW H} {p : List MemPlace} (h : ∃ fuel, DataW.trod enc Try.prog w bs spare held fuel 34 (Value.slice a n c).cells.toList = some (d, p)) :
   ∃ L : List Str, RepI (fun b => b < w.heap.size) w (.sl 1 (L.map IV.str)) (.slice a n c) ∧ L.length ≤ 9223372036854775807 := by
 obtain ⟨css, h1, h2, h3⟩ := open_sl S0_ok (by decide) Try.underlying34 h
 obtain ⟨L, h4, h5, _⟩ := elems_of (f := IV.str) (ok := fun _ => True) (fun cs hcs => by
   obtain ⟨x, rfl, _⟩ := hcs.str_inv Try.underlying9
   exact ⟨x, by rw [agg_string]; rfl, trivial⟩) css h3
 rw [h4, c_str] at h1
 exact ⟨L, h1, by unfold maxLen at h2; omega⟩
end
end Go.Proofs.Ytckamfmllkpafaa.Pw
