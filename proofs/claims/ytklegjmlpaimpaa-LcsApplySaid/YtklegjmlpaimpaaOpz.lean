/-
  How slices of integers that came in lie in memory.
-/
import Derived.Test.YtklegjmlpaimpaaOpn
import Derived.Test.YtklegjmlpaimpaaLawC
namespace Go.Proofs.Ytklegjmlpaimpaa
open Go.ChangeShapes Go.WideShapes Go.ChangeAt Go.RowKit
open Lcs Rise

theorem cInt : Try.prog.cellsOf 3 = 1 := by kernel_rfl
theorem bInt : Try.prog.bytesOf 3 = 8 := by kernel_rfl
theorem ints_open {H : Type} {enc : TypeId × Value → H} {W : World} {a : Option Addr} {n c : Nat} {d : DataW H} {p : List MemPlace}
    (h : ∃ fuel, DataW.trod enc Try.prog W 0 (fun _ => true) true fuel 44 (Value.slice a n c).cells.toList = some (d, p)) (lt : ∀ x ∈ p, x.block < W.heap.size)
    (hz : ∀ elems spare, d = .slice elems spare → (elems.length + spare.length) * Try.prog.bytesOf 3 ≤ reachBytes) :
    ∃ L, Zq W a n L := by
  obtain ⟨fuel, hf⟩ := h
  rcases open_ints Try.underlying44 Try.underlying3 cInt hf with ⟨hcs, _⟩ | ⟨x, l, k, zs, hcs, _, hl, hm, hzs, hx, hc, _⟩
  · simp [Value.cells] at hcs
    obtain ⟨rfl, rfl, rfl⟩ := hcs
    exact ⟨[], ValsAt.nil _ _ _, by omega⟩
  · simp [Value.cells] at hcs
    obtain ⟨rfl, rfl, rfl⟩ := hcs
    rw [if_pos rfl] at hzs
    obtain ⟨rfl, rfl⟩ := Prod.mk.inj hx
    have hr := hz _ _ rfl
    have e1 : (lits (H := H) IntKind.i64 (zs.take n)).length = n := by simp [lits]; omega
    have e2 : (lits (H := H) IntKind.i64 (zs.drop n)).length = zs.length - n := by simp [lits]
    rw [bInt, e1, e2] at hr
    have hn : n ≤ 17592186044415 := by unfold reachBytes at hr; omega
    refine ⟨zs.take n, ⟨by rw [zi_len, List.length_take]; omega, fun h0 => ?_⟩, hn⟩
    have hs := World.cell?_spot (hc 0 (by omega))
    obtain ⟨b, off, sp⟩ := x
    have hsp : sp = none := by simpa [Addr.add] using hs
    subst hsp
    refine ⟨b, off, rfl, lt (.cell b (off + 0)) (row_head ⟨b, off, none⟩ _ (by omega)), fun k u hk => ?_⟩
    have hkn : k < n := by
      have := (List.getElem?_eq_some_iff.1 hk).1
      rw [zi_len, List.length_take] at this
      omega
    have h1 := hc k (by omega)
    rw [Go.WideShapes.add_plain] at h1
    rw [h1]
    have hu : u = .int .i64 (zs.getD k 0) := by
      unfold zi at hk
      rw [List.getElem?_map, List.getElem?_take, if_pos hkn, List.getElem?_eq_getElem (by omega)] at hk
      rw [List.getD, List.getElem?_eq_getElem (by omega)]
      injection hk with hk
      exact hk.symm
    rw [hu]
end Go.Proofs.Ytklegjmlpaimpaa
