/-
  How sequences that came in lie in memory.
-/
import Derived.Deep.Strs
import Derived.ProofKit
import Derived.SizedLaws
import Derived.OpenShut
import Derived.Test.YtklegjmlpaimpaaAwk
namespace Go.Proofs.Ytklegjmlpaimpaa
open Go.ChangeShapes Go.WideShapes Go.ChangeAt Go.RowKit
open Lcs Rise

theorem own : ownKnob Try.prog.godebug = none := by kernel_rfl
theorem laidOut : laidOutB Try.prog = true := by kernel_rfl
theorem cStr : Try.prog.cellsOf 9 = 1 := by kernel_rfl
theorem bStr : Try.prog.bytesOf 9 = 16 := by kernel_rfl
theorem row_head (x : Addr) (n : Nat) (h : 0 < n) : MemPlace.cell x.block (x.off + 0) ∈ MemPlace.row x n := by
  unfold MemPlace.row
  exact List.mem_map.2 ⟨0, by simpa using h, rfl⟩
/-- A slice of strings that came in, as the walks read it. -/
theorem strs_open {H : Type} {enc : TypeId × Value → H} {W : World} {a : Option Addr} {n c : Nat} {d : DataW H} {p : List MemPlace}
    (h : ∃ fuel, DataW.trod enc Try.prog W 0 (fun _ => true) true fuel 22 (Value.slice a n c).cells.toList = some (d, p)) (lt : ∀ x ∈ p, x.block < W.heap.size)
    (hz : ∀ elems spare, d = .slice elems spare → (elems.length + spare.length) * Try.prog.bytesOf 9 ≤ reachBytes) :
    ∃ L, Sq W a n c L := by
  obtain ⟨fuel, hf⟩ := h
  rcases Deep.open_strs Try.underlying22 Try.underlying9 cStr hf with ⟨hcs, _⟩ | ⟨x, l, k, m, Sx, hcs, _, hl, hm, hmm, hx, hc⟩
  · simp [Value.cells] at hcs
    obtain ⟨rfl, rfl, rfl⟩ := hcs
    exact ⟨[], ⟨⟨ValsAt.nil _ _ _, by omega, by omega, by omega, Nat.le_refl _⟩, fun h => absurd h (by omega)⟩⟩
  · simp [Value.cells] at hcs
    obtain ⟨rfl, rfl, rfl⟩ := hcs
    rw [if_pos rfl] at hmm
    subst hmm
    obtain ⟨rfl, rfl⟩ := Prod.mk.inj hx
    have hr := hz _ _ rfl
    rw [bStr, List.length_map, List.length_map, List.length_range, List.length_range] at hr
    have hn : n ≤ 8796093022207 := by unfold reachBytes at hr; omega
    have spot : 0 < m → ∃ b off, some x = some (⟨b, off, none⟩ : Addr) := by
      intro h0
      have hs := World.cell?_spot (hc 0 (by omega)).1
      obtain ⟨b, off, sp⟩ := x
      have hsp : sp = none := by simpa [Addr.add] using hs
      subst hsp
      exact ⟨b, off, rfl⟩
    refine ⟨(List.range n).map Sx, ⟨⟨⟨by simp [sv], fun h0 => ?_⟩, hl, by unfold maxLen at hm; omega, hn, Nat.le_refl _⟩, spot⟩⟩
    obtain ⟨b, off, he⟩ := spot (by omega)
    have he' : x = ⟨b, off, none⟩ := by injection he
    subst he'
    refine ⟨b, off, rfl, lt (.cell b (off + 0)) (row_head _ _ (by omega)), fun k u hk => ?_⟩
    have hkn : k < n := by
      have := (List.getElem?_eq_some_iff.1 hk).1
      simpa [sv] using this
    have h1 := (hc k (by omega)).1
    rw [Go.WideShapes.add_plain] at h1
    rw [h1]
    simp [sv, hkn] at hk
    exact congrArg some hk
end Go.Proofs.Ytklegjmlpaimpaa
