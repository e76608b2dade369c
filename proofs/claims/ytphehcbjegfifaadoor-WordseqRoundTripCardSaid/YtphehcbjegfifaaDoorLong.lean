/-
  The contract of long: where it answers no, every sequence has at most 300 elements.
-/
import Derived.Test.YtphehcbjegfifaaDoorIns
namespace Go.Proofs.YtphehcbjegfifaaDoor
open Go.RowKit (wrap32 wrap64 intOf Hid Below)
open Occ

/-- A sequence as it lies: its address, length, capacity and elements. -/
abbrev Rw := Option Addr × Nat × Nat × List Str
def rwAt (rs : List Rw) (k : Nat) : Rw := rs.getD k (none, 0, 0, [])
def RowsAt (w : World) (g : Nat) (rs : List Rw) : Prop :=
  ∀ k, k < rs.length → w.cell? ⟨g, k, none⟩ = some (.slice (rwAt rs k).1 (rwAt rs k).2.1 (rwAt rs k).2.2.1) ∧ ValsAt w.heap.size w (rwAt rs k).1 (rwAt rs k).2.1 (sv (rwAt rs k).2.2.2) ∧ (rwAt rs k).2.1 ≤ 8796093022207
/-- What long answers. -/
def LongRet (rs : List Rw) (e : Ending) : Prop := ∃ b, e = .returned (.bool b) ∧ (b = false → ∀ k, k < rs.length → (rwAt rs k).2.1 ≤ 300)

set_option maxHeartbeats 2000000 in
theorem long_any (rs : List Rw) (r g : Nat) (w : World) (hr : rs.length = r) (hrr : r ≤ 10) (hrows : RowsAt w g rs) :
    Calls Tryd.prog 11 #[.slice (some ⟨g, 0, none⟩) r r] w fun e w' => LongRet rs e ∧ w = w' := by
  have HR := Lib.hid hrows
  have HL := Lib.hid hr
  clear hrows hr
  go_enter Tryd.func11, Tryd.ntmps11
  go_wp2
  go_loop [10] (fun i => ∃ k : Nat, k ≤ r ∧ i = .int .i64 k ∧ ∀ j, j < k → (rwAt rs j).2.1 ≤ 300) (fun i => r - (intOf i).toNat)
  case atStart => exact ⟨0, Nat.zero_le _, rfl, fun j hj => absurd hj (by omega)⟩
  case round =>
    obtain ⟨k, hk, rfl, hg⟩ := hrel
    have HG := Lib.hid hg
    clear hg
    by_cases hlt : k < r
    · obtain ⟨hcell, hv, hn⟩ := HR.out k (by have := HL.out; omega)
      obtain ⟨A, hA⟩ : ∃ A, (rwAt rs k).1 = A := ⟨_, rfl⟩
      obtain ⟨n, hN⟩ : ∃ n, (rwAt rs k).2.1 = n := ⟨_, rfl⟩
      obtain ⟨c, hC⟩ : ∃ c, (rwAt rs k).2.2.1 = c := ⟨_, rfl⟩
      rw [hA, hN, hC] at hcell
      rw [hA, hN] at hv
      rw [hN] at hn
      have HN := Lib.hid hN
      have HV := Lib.hid hv
      clear hA hN hC hv
      go_wp2
      go_loop [5, 16] (fun s i => ∃ (j : Nat) (z : Int), j ≤ n ∧ i = .int .i64 j ∧ s = .int .i64 z) (fun _ i => n - (intOf i).toNat)
      case atStart => exact ⟨0, 0, Nat.zero_le _, rfl, rfl⟩
      case round =>
        obtain ⟨j, z, hj, rfl, rfl⟩ := hrel
        by_cases hjn : j < n
        · obtain ⟨b, off, rfl, hB, hc2⟩ := HV.out.str (Below.refl _ _) hjn
          go_wp2
          go_round
          case rel => exact ⟨j + 1, _, by omega, by go_num, rfl⟩
          case measure => simp [intOf]; omega
        · by_cases h300 : 300 < n
          · go_wp2
            go_ret
            exact ⟨⟨true, rfl, fun h => by cases h⟩, rfl⟩
          · by_cases hz : 3000 < z
            · go_wp2
              go_ret
              exact ⟨⟨true, rfl, fun h => by cases h⟩, rfl⟩
            · go_wp2
              go_round
              case rel => exact ⟨k + 1, by omega, by go_num, fun j hj => by
                by_cases h : j = k
                · subst h; rw [HN.out]; omega
                · exact HG.out j (by omega)⟩
              case measure => simp [intOf]; omega
    · go_wp2
      go_ret
      exact ⟨⟨false, rfl, fun _ j hj => HG.out j (by have := HL.out; omega)⟩, rfl⟩
end Go.Proofs.YtphehcbjegfifaaDoor
