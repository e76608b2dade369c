/-
  Slicing a slice: one law for every low and high end.
-/
import Derived.Test.YtklegjmlpaimpaaRlen
namespace Go.Proofs.Ytklegjmlpaimpaa
open Go.RowKit (wrap32 wrap64 intOf Hid Below)
open Lcs

/-- The address of what begins at an index of elements of s cells: where that is the capacity, it is the old one. -/
def tl (A : Option Addr) (c f s : Nat) : Option Addr := if c = f then A else A.map fun a => a.add (f * s)
theorem run_from {P : Program} {t e : TypeId} {i : TypeInfo} {s : Nat} (ht : P.underlying t = some (.slice e)) (hi : P.info? e = some i) (hs : i.size = s) (A : Option Addr) (n c f : Nat) (hf : f ≤ n) (W : World) :
    (Instr.slice t (.slice A n c) (some (.int .i64 (f : Int))) none none).run P W = .ok (.slice (tl A c f s) (n - f) (c - f)) W := by
  unfold tl
  simp [Instr.slice, Instr.sliceBounds, Instr.sliceBound, asIntOf, run_underlying ht, sizeOf, typeInfo, hi, hs]
  intro h
  omega
theorem run_part {P : Program} {t e : TypeId} {i : TypeInfo} {s : Nat} (ht : P.underlying t = some (.slice e)) (hi : P.info? e = some i) (hs : i.size = s) (A : Option Addr) (n c l h : Nat) (hl : l ≤ h) (hh : h ≤ c) (W : World) :
    (Instr.slice t (.slice A n c) (some (.int .i64 (l : Int))) (some (.int .i64 (h : Int))) none).run P W = .ok (.slice (tl A c l s) (h - l) (c - l)) W := by
  have h1 : ((h : Int) ≤ c) := by omega
  unfold tl
  simp [Instr.slice, Instr.sliceBounds, Instr.sliceBound, asIntOf, run_underlying ht, sizeOf, typeInfo, hi, hs, hh, hl]
theorem ValsAt.part {B : Nat} {w : World} {A : Option Addr} {n : Nat} {L : List Value} (h : ValsAt B w A n L) (c i j : Nat) (hi : i ≤ j) (hj : j ≤ n) (hn : n ≤ c) : ValsAt B w (tl A c i 1) (j - i) ((L.drop i).take (j - i)) := by
  rcases Nat.lt_or_ge i j with hlt | hge
  · obtain ⟨b, off, rfl, _⟩ := h.addr (by omega)
    have h1 := h.cut i (j - i) (by omega)
    unfold tl
    rw [if_neg (by omega), Nat.mul_one, Option.map_some, Go.WideShapes.add_plain]
    exact h1
  · have e : j - i = 0 := by omega
    rw [e, List.take_zero]
    exact ValsAt.nil _ _ _
theorem ValsAt.tail {B : Nat} {w : World} {A : Option Addr} {n : Nat} {L : List Value} (h : ValsAt B w A n L) (c i : Nat) (hi : i ≤ n) (hn : n ≤ c) : ValsAt B w (tl A c i 1) (n - i) (L.drop i) := by
  have h1 := h.part c i n hi (Nat.le_refl _) hn
  rwa [List.take_of_length_le (by rw [List.length_drop, h.1]; omega)] at h1
theorem sv_drop (L : List Str) (i : Nat) : (sv L).drop i = sv (L.drop i) := by simp [sv]
end Go.Proofs.Ytklegjmlpaimpaa
