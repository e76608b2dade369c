/-
  A slice of integers that came in, as the walks of the sittings want it.
-/
import Derived.Test.YtagapapnpefckaaDoorLawE
import Derived.ChangeOld
import Derived.OpenShut
namespace Go.Proofs.YtagapapnpefckaaDoor
open Go.RowKit

theorem intsAt_open {W : World} {x : Addr} {l c : Nat} {zs : List Int} (hl : l ≤ c) (hc : zs.length = c) (hcell : ∀ i, i < zs.length → W.cell? (x.add i) = some (.int .i64 (zs.getD i 0))) (hlt : 0 < c → x.block < W.heap.size) :
    IntsAt W.heap.size W (some x) l (zs.take l) := by
  refine ⟨by rw [List.length_take]; omega, fun hn => ?_⟩
  obtain ⟨b, off, rfl, hc'⟩ := ints_at hcell (by omega)
  refine ⟨b, off, rfl, hlt (by omega), fun k hk => ?_⟩
  rw [hc' k (by omega)]
  unfold el
  simp [List.getD, hk]
theorem row_head (x : Addr) (n : Nat) (h : 0 < n) : MemPlace.cell x.block (x.off + 0) ∈ MemPlace.row x n := by
  unfold MemPlace.row
  exact List.mem_map.2 ⟨0, by simpa using h, rfl⟩
end Go.Proofs.YtagapapnpefckaaDoor
