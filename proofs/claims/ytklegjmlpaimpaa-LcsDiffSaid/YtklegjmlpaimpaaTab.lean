/-
  The contracts of slices.Index and of the function literal that fills the table of lengths.
-/
import Derived.Deep.RegionLaw
import Derived.Deep.RegionHeld3
import Derived.Test.YtklegjmlpaimpaaMem
namespace Go.Proofs.Ytklegjmlpaimpaa
open Go.RowKit (wrap32 wrap64 intOf Hid Below)
open Lcs

/-- An index, or -1. -/
def ixv : Option Nat → Int
  | none => -1
  | some k => k

set_option maxHeartbeats 1000000 in
/-- slices.Index over strings. -/
theorem index_any (L : List Str) (s : Str) (B n c : Nat) (A : Option Addr) (w : World) (hz : ValsAt B w A n (sv L)) (hn : n ≤ 9223372036854775807) :
    Calls Try.prog 28 #[.slice A n c, .string s] w fun e w' => e = .returned (.int .i64 (ixv (idx s L))) ∧ w = w' := by
  have HL := Lib.hid hz.1
  rw [sv_len] at HL
  go_enter Try.func28, Try.ntmps28
  go_wp2
  go_loop [8] (fun i => ∃ k : Nat, k ≤ n ∧ i = .int .i64 k ∧ ∀ j, j < k → st L j ≠ s) (fun i => n - (intOf i).toNat)
  case atStart => exact ⟨0, Nat.zero_le _, rfl, fun j hj => absurd hj (by omega)⟩
  case round =>
    obtain ⟨k, hk, rfl, hg⟩ := hrel
    have HG := Lib.hid hg
    by_cases hlt : k < n
    · obtain ⟨b, off, rfl, hB, h1⟩ := hz.str (Below.refl _ _) hlt
      have hs := str_eq s (st L k)
      clear hz hg
      by_cases he : s = st L k
      · rw [decide_eq_true he] at hs
        have HE := Lib.hid he
        clear he
        go_wp2
        go_ret
        have e : idx s L = some k := idx_of (by rw [List.getElem?_eq_getElem (by have := HL.out; omega), ← st_eq (by have := HL.out; omega), ← HE.out]) (fun j hj h => HG.out j hj (by
          have hj' : j < L.length := by have := HL.out; omega
          rw [List.getElem?_eq_getElem hj', ← st_eq hj'] at h
          injection h))
        exact ⟨ret_int (by rw [e]; rfl), rfl⟩
      · rw [decide_eq_false he] at hs
        have HE := Lib.hid he
        clear he
        go_wp2
        go_round
        case rel => exact ⟨k + 1, by omega, by go_num, fun j hj => by
          by_cases h : j = k
          · subst h; exact Ne.symm HE.out
          · exact HG.out j (by omega)⟩
        case measure => simp [intOf]; omega
    · obtain rfl : k = n := by omega
      clear hz hg
      go_wp2
      go_ret
      have e : idx s L = none := idx_of_none fun j hj h => HG.out j (by have := HL.out; omega) (by
        rw [List.getElem?_eq_getElem hj, ← st_eq hj] at h
        injection h)
      exact ⟨ret_int (by rw [e]; rfl), rfl⟩

/-- A table of numbers: rows of m + 1 numbers in the blocks from r0 on, their slices in block ob. -/
structure TabW (w : World) (ob r0 n m : Nat) (V : Nat → Nat → Nat) : Prop where
  lt : ob < r0
  size : r0 + n < w.heap.size
  outer : ∀ i, i ≤ n → w.cell? ⟨ob, i, none⟩ = some (.slice (some ⟨r0 + i, 0, none⟩) (m + 1) (m + 1))
  inner : ∀ i j, i ≤ n → j ≤ m → w.cell? ⟨r0 + i, j, none⟩ = some (.int .i64 (V i j : Nat))
  free : ∀ i j, i ≤ n → j ≤ m → w.frozen? ⟨r0 + i, j, none⟩ = false
theorem TabW.drawn {w w' : World} {ob r0 n m : Nat} {V : Nat → Nat → Nat} (h : TabW w ob r0 n m V) (hq : ∃ q, w' = w.drewN q) : TabW w' ob r0 n m V := by
  obtain ⟨q, rfl⟩ := hq
  exact ⟨h.lt, h.size, h.outer, h.inner, h.free⟩
theorem TabW.below {w w' : World} {ob r0 n m : Nat} {V : Nat → Nat → Nat} (h : TabW w ob r0 n m V) (hb : Below w.heap.size w w') : TabW w' ob r0 n m V := by
  have h1 := h.lt
  have h2 := h.size
  exact ⟨h1, Nat.lt_of_lt_of_le h2 hb.size, fun i hi => (hb.cell (p := ⟨ob, i, none⟩) (by simp only []; omega)).trans (h.outer i hi), fun i j hi hj => (hb.cell (p := ⟨r0 + i, j, none⟩) (by simp only []; omega)).trans (h.inner i j hi hj),
    fun i j hi hj => (hb.frozen (p := ⟨r0 + i, j, none⟩) (by simp only []; omega)).trans (h.free i j hi hj)⟩
/-- A table with one entry changed. -/
def upd (V : Nat → Nat → Nat) (i j v : Nat) : Nat → Nat → Nat := fun a b => if a = i ∧ b = j then v else V a b
theorem TabW.store {w : World} {ob r0 n m : Nat} {V : Nat → Nat → Nat} (h : TabW w ob r0 n m V) (i j v : Nat) (hi : i ≤ n) (hj : j ≤ m) : TabW (w.setCell ⟨r0 + i, j, none⟩ (.int .i64 (v : Nat))) ob r0 n m (upd V i j v) := by
  have h1 := h.lt
  have h2 := h.size
  refine ⟨h1, by simpa using h2, fun a ha => ?_, fun a b ha hb => ?_, fun a b ha hb => by rw [World.frozen?_setCell]; exact h.free a b ha hb⟩
  · rw [World.cell?_setCell_other _ _ _ _ (by intro e; injection e with e1; omega)]
    exact h.outer a ha
  · by_cases e : a = i ∧ b = j
    · obtain ⟨rfl, rfl⟩ := e
      rw [World.cell?_setCell_same _ _ _ (h.inner a b ha hb)]
      simp [upd]
    · rw [World.cell?_setCell_other _ _ _ _ (by intro e'; simp at e'; omega), h.inner a b ha hb]
      simp [upd, e]

/-- What the function literal that fills the table stores. -/
def fillv (La Lb : List Str) (V : Nat → Nat → Nat) (i j : Nat) : Nat := if st La i = st Lb j then 1 + V (i + 1) (j + 1) else max (V (i + 1) j) (V i (j + 1))

set_option maxHeartbeats 2000000 in
set_option maxRecDepth 100000 in
theorem fill_any (La Lb : List Str) (B n m ca cb ba bb bt ob r0 i j : Nat) (A D : Option Addr) (V : Nat → Nat → Nat) (w : World) (ha : ValsAt B w A n (sv La)) (hb : ValsAt B w D m (sv Lb)) (ht : TabW w ob r0 n m V)
    (ka : w.cell? ⟨ba, 0, none⟩ = some (.slice A n ca)) (kb : w.cell? ⟨bb, 0, none⟩ = some (.slice D m cb)) (kt : w.cell? ⟨bt, 0, none⟩ = some (.slice (some ⟨ob, 0, none⟩) (n + 1) (n + 1)))
    (hi : i < n) (hj : j < m) (hn : n ≤ 1000000) (hm : m ≤ 1000000) (hV : ∀ a b, V a b ≤ 1000000) :
    Calls Try.prog 34 #[.int .i64 (i : Int), .int .i64 (j : Int), .pointer (some ⟨ba, 0, none⟩), .pointer (some ⟨bb, 0, none⟩), .pointer (some ⟨bt, 0, none⟩)] w
      fun e w' => e = .returned (.tuple #[]) ∧ ∃ q, w' = (w.drewN q).setCell ⟨r0 + i, j, none⟩ (.int .i64 (fillv La Lb V i j : Nat)) := by
  obtain ⟨b, off, rfl, hB, h1⟩ := ha.str (Below.refl _ _) hi
  obtain ⟨b', off', rfl, hB', h1'⟩ := hb.str (Below.refl _ _) hj
  have hs := str_eq (st La i) (st Lb j)
  have o1 := ht.outer i (by omega)
  have o2 := ht.outer (i + 1) (by omega)
  have v1 := ht.inner (i + 1) (j + 1) (by omega) (by omega)
  have v2 := ht.inner (i + 1) j (by omega) (by omega)
  have v3 := ht.inner i (j + 1) (by omega) (by omega)
  have v0 := ht.inner i j (by omega) (by omega)
  have f0 := ht.free i j (by omega) (by omega)
  have b1 := hV (i + 1) (j + 1)
  have b2 := hV (i + 1) j
  have b3 := hV i (j + 1)
  have HF := Lib.hid (show fillv La Lb V i j = if st La i = st Lb j then 1 + V (i + 1) (j + 1) else max (V (i + 1) j) (V i (j + 1)) from rfl)
  clear ha hb ht hV
  rw [← Nat.add_assoc] at o2 v1 v2
  generalize V (i + 1) (j + 1) = x1 at *
  generalize V (i + 1) j = x2 at *
  generalize V i (j + 1) = x3 at *
  generalize V i j = x0 at *
  by_cases he : st La i = st Lb j
  · rw [decide_eq_true he] at hs
    have HE : Hid (fillv La Lb V i j = 1 + x1) := Lib.hid (by rw [HF.out, if_pos he])
    clear he HF
    go_enter Try.func34, Try.ntmps34
    go_wp2
    go_quiet (fail)
    go_wp2
    go_region
    go_wp2
    (try simp only [Exit.inBlock, Exit.then]); refine bodyPost_ret (results_none rfl _ _ _) rfl ?_
    exact ⟨rfl, _, by rw [HE.out, Int.natCast_add]; rfl⟩
  · rw [decide_eq_false he] at hs
    have HE : Hid (fillv La Lb V i j = max x2 x3) := Lib.hid (by rw [HF.out, if_neg he])
    clear he HF
    go_enter Try.func34, Try.ntmps34
    go_wp2
    go_quiet (fail)
    go_wp2
    go_region
    go_end0
    exact ⟨rfl, _, by rw [HE.out, show ((max x2 x3 : Nat) : Int) = if x2 < x3 then (x3 : Int) else x2 by split <;> omega]⟩
end Go.Proofs.Ytklegjmlpaimpaa
