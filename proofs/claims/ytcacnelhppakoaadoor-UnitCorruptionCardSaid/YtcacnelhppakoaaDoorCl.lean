/-
  UnitCorruption returns true: from plain values to the law's walk.
-/
import Derived.Test.YtcacnelhppakoaaDoorCw
namespace Go.Proofs.YtcacnelhppakoaaDoor
open Go Go.Pv Go.RowKit
theorem ut_ok {w : World} {u : Ut} {v : Value} (hV : UtV w u v) : Pu.okU u := by
  obtain ⟨vs, rfl, h⟩ := hV
  exact Pu.utc_ok u vs h
theorem lawCorruption {w : World} (u : Ut) (v : Value) (hV : UtV w u v) (a b : Int) (hTab : Tab w ∧ TabN w ∧ TabK w) :
    Calls Tryd.prog 7 #[v, .int .i64 a, .int .i64 b] w fun e w' => e = .returned (.bool true) ∧ Below w.heap.size w w' := by
  have h := (Pu.corr_pc Pu.envU rfl u (ut_ok hV) a b).2 (fun b => b < w.heap.size) w [v, .int .i64 a, .int .i64 b] (fun _ h => h) (fun _ _ h => by cases h) hTab ?_
  · refine h.mono ?_
    rintro e w' ⟨x, Q', rfl, hb, _, _, hr⟩
    refine ⟨?_, hb⟩
    unfold RepRes RepI at hr
    rw [hr]
  · obtain ⟨vs, rfl, hC⟩ := hV
    refine ⟨_, _, rfl, Pu.of_utc (fun _ h => h) u vs hC, _, _, rfl, by unfold RepI; rfl, _, _, rfl, by unfold RepI; rfl, rfl⟩
end Go.Proofs.YtcacnelhppakoaaDoor
