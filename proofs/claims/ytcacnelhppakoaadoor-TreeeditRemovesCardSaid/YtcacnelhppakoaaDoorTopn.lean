/-
  How trees that came in lie in memory.
-/
import Derived.Deep.Slices
import Derived.ChangeSame
import Derived.ProofKit
import Derived.SizedLaws
import Derived.OpenShut
import Derived.Test.YtcacnelhppakoaaDoorTree
namespace Go.Proofs.YtcacnelhppakoaaDoor
open Go.ChangeShapes Go.WideShapes Go.ChangeAt Go.RowKit
open Lcs

theorem cInt : Tryd.prog.cellsOf 3 = 1 := by kernel_rfl
theorem cStr : Tryd.prog.cellsOf 9 = 1 := by kernel_rfl
theorem cId : Tryd.prog.cellsOf 23 = 3 := by kernel_rfl
theorem cMark : Tryd.prog.cellsOf 47 = 3 := by kernel_rfl
theorem cWords : Tryd.prog.cellsOf 24 = 1 := by kernel_rfl
theorem cUnits : Tryd.prog.cellsOf 25 = 1 := by kernel_rfl
theorem row_head (x : Addr) (n : Nat) (h : 0 < n) : MemPlace.cell x.block (x.off + 0) ∈ MemPlace.row x n := by
  unfold MemPlace.row
  exact List.mem_map.2 ⟨0, by simpa using h, rfl⟩
theorem wf_in {z : Int} (h : (Lit.int .i64 z).wf = true) : inI z := by
  unfold Lit.wf at h
  rw [Bool.and_eq_true, decide_eq_true_eq, decide_eq_true_eq] at h
  exact h
section
variable {H : Type} {enc : TypeId × Value → H} {W : World}
set_option maxRecDepth 100000 in
theorem id_in {k : Nat} {vs : List Value} {y : DataW H × List MemPlace} (hl : vs.length = 3)
    (h : DataW.trod enc Tryd.prog W 0 (fun _ => true) true k 23 vs = some y) : ∃ t : Trip, vs = [.int .i64 t.x, .int .i64 t.y, .int .i64 t.z] ∧ t.ok := by
  obtain ⟨xs, n, _, _, _, hxl, hf⟩ := DataW.trod_struct Tryd.underlying23 h
  match xs, hxl, vs, hl with
  | [y0, y1, y2], _, [v0, v1, v2], _ =>
    have g0 := hf 0 _ rfl
    have g1 := hf 1 _ rfl
    have g2 := hf 2 _ rfl
    simp [cInt] at g0 g1 g2
    obtain ⟨z0, e0, _, f0⟩ := DataW.trod_int Tryd.underlying3 g0
    obtain ⟨z1, e1, _, f1⟩ := DataW.trod_int Tryd.underlying3 g1
    obtain ⟨z2, e2, _, f2⟩ := DataW.trod_int Tryd.underlying3 g2
    injection e0 with e0
    injection e1 with e1
    injection e2 with e2
    exact ⟨⟨z0, z1, z2⟩, by rw [e0, e1, e2], wf_in f0, wf_in f1, wf_in f2⟩
set_option maxRecDepth 100000 in
theorem mark_in {k : Nat} {vs : List Value} {y : DataW H × List MemPlace} (hl : vs.length = 3)
    (h : DataW.trod enc Tryd.prog W 0 (fun _ => true) true k 47 vs = some y) : ∃ t : Trip, vs = [.int .i64 t.x, .int .i64 t.y, .int .i64 t.z] ∧ t.ok := by
  obtain ⟨xs, n, _, _, _, hxl, hf⟩ := DataW.trod_struct Tryd.underlying47 h
  match xs, hxl, vs, hl with
  | [y0, y1, y2], _, [v0, v1, v2], _ =>
    have g0 := hf 0 _ rfl
    have g1 := hf 1 _ rfl
    have g2 := hf 2 _ rfl
    simp [cInt] at g0 g1 g2
    obtain ⟨z0, e0, _, f0⟩ := DataW.trod_int Tryd.underlying3 g0
    obtain ⟨z1, e1, _, f1⟩ := DataW.trod_int Tryd.underlying3 g1
    obtain ⟨z2, e2, _, f2⟩ := DataW.trod_int Tryd.underlying3 g2
    injection e0 with e0
    injection e1 with e1
    injection e2 with e2
    exact ⟨⟨z0, z1, z2⟩, by rw [e0, e1, e2], wf_in f0, wf_in f1, wf_in f2⟩
set_option maxRecDepth 100000 in
/-- One word's cells. -/
theorem word_in {k : Nat} {vs : List Value} {y : DataW H × List MemPlace} (hl : vs.length = 4)
    (h : DataW.trod enc Tryd.prog W 0 (fun _ => true) true k 49 vs = some y) : ∃ a : Wd, vs = [.string a.text, .int .i64 a.mark.x, .int .i64 a.mark.y, .int .i64 a.mark.z] := by
  obtain ⟨xs, n, _, _, _, hxl, hf⟩ := DataW.trod_struct Tryd.underlying49 h
  match xs, hxl, vs, hl with
  | [y0, y1], _, [v0, v1, v2, v3], _ =>
    have g0 := hf 0 _ rfl
    have g1 := hf 1 _ rfl
    simp [cStr, cMark] at g0 g1
    obtain ⟨s, e0, _⟩ := DataW.trod_string Tryd.underlying9 g0
    obtain ⟨t, e1, _⟩ := mark_in rfl g1
    injection e0 with e0
    exact ⟨⟨s, t⟩, by rw [e0]; exact congrArg (Value.string s :: ·) e1⟩
end
end Go.Proofs.YtcacnelhppakoaaDoor
