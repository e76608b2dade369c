/-
  Canonical lists of days: Valid; the law of InForce.
-/
import Derived.Test.YtmgjpmjmondplaaWAj
import Derived.Test.YtmgjpmjmondplaaWAi
namespace Go.Proofs.Ytmgjpmjmondplaa.Pe
open Go Go.Pv Go.RowKit
set_option linter.unusedSimpArgs false
open Spans Rm
set_option maxRecDepth 10000
set_option maxHeartbeats 16000000
theorem force_has (a : St) (e : En) (l : List En) : ∃ P, forceL a e l = canon P ∧ HasC P (1 + l.length) := by
 unfold forceL
 split
 · exact ⟨_, rfl, days_has (dayP_has _)⟩
 · exact ⟨dayP none, day_none.symm, (dayP_has none).1, Nat.le_trans (dayP_has none).2 (by omega)⟩
def InE (e : En) (l : List En) : Prop := l.length * 392 ≤ 140737488351232 ∧ ∀ x ∈ e :: l, x.it.ev.size ≤ 9223372036854775807 ∧ x.it.st.e.size ≤ 9223372036854775807
theorem few2_pc (e : En) (l : List En) (h : InE e l) : PC Try.prog env0 11 [.sl 28 ((e :: l).map env1)] [.bool (fewE (e :: l))] := few_pc (e :: l) (by have := h.1; rw [List.length_cons]; omega) h.2
theorem few_le {e : En} {l : List En} (h : fewE (e :: l) = true) : l.length ≤ 39 := by
 unfold fewE at h
 simp at h
 omega
theorem InE.of {e : En} {l : List En} (he : FitI e.it) (hl : l.length * 392 ≤ 140737488351232) (hf : ∀ x ∈ l, FitI x.it) : InE e l := by
 refine ⟨hl, fun x hx => ?_⟩
 have hx : FitI x.it := by
   rcases List.mem_cons.1 hx with rfl | hx
   · exact he
   · exact hf x hx
 obtain ⟨h1, h2⟩ := hx
 unfold FitS maxLen at *
 omega
end Go.Proofs.Ytmgjpmjmondplaa.Pe
