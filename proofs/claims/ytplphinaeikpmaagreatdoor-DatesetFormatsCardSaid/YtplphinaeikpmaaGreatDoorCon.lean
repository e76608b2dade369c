/-
  Membership in a list of spans, lists of integers in memory, and that every list has a canonical list: the parts of the texts on Size, Contains and Boundaries that speak of none of these functions.
-/
import Derived.Test.YtplphinaeikpmaaGreatDoorLater
namespace Go.Proofs.YtplphinaeikpmaaGreatDoor
open Go.RowKit (wrap32 wrap64 intOf Hid Below)
open Spans

theorem memB_take_step (L : List Sp) (k : Nat) (hk : k < L.length) (d : Int) : memB (L.take (k + 1)) d = (memB (L.take k) d || decide (fr L k ≤ d ∧ d < tu L k)) := by
  rw [take_step L k hk, memB_app]
  simp [memB]
theorem memB_some (L : List Sp) (k : Nat) (hk : k < L.length) (d : Int) (h : decide (fr L k ≤ d ∧ d < tu L k) = true) : memB L d = true := by
  rw [memB_iff]
  exact ⟨_, el_mem L k hk, of_decide_eq_true h⟩
/-- The membership that Contains reports. -/
def conB (L : List Sp) (d : Int) : Bool := decide (0 ≤ d ∧ d ≤ 1048576) && memB L d
/-- The k-th element of a list. -/
def el (zs : List Int) (k : Nat) : Int := zs.getD k 0
/-- A slice value that reads as a list of integers below block B; where it has no element nothing is asked of its address. -/
def IntsAt (B : Nat) (w : World) (A : Option Addr) (n : Nat) (zs : List Int) : Prop :=
  zs.length = n ∧ (0 < n → ∃ b off, A = some ⟨b, off, none⟩ ∧ b < B ∧ ∀ k, k < n → w.cell? ⟨b, off + k, none⟩ = some (.int .i64 (el zs k)))
theorem IntsAt.below {B : Nat} {w w' : World} {A : Option Addr} {n : Nat} {zs : List Int} (h : IntsAt B w A n zs) (hb : Below B w w') : IntsAt B w' A n zs :=
  ⟨h.1, fun hn => by
    obtain ⟨b, off, e, hlt, hc⟩ := h.2 hn
    exact ⟨b, off, e, hlt, fun k hk => (hb.cell (p := ⟨b, off + k, none⟩) hlt).trans (hc k hk)⟩⟩
theorem IntsAt.mono {B B' : Nat} {w : World} {A : Option Addr} {n : Nat} {zs : List Int} (h : IntsAt B w A n zs) (hB : B ≤ B') : IntsAt B' w A n zs :=
  ⟨h.1, fun hn => by
    obtain ⟨b, off, e, hlt, hc⟩ := h.2 hn
    exact ⟨b, off, e, by omega, hc⟩⟩
theorem IntsAt.cells {B : Nat} {w wr : World} {A : Option Addr} {n : Nat} {zs : List Int} (h : IntsAt B w A n zs) (hb : Below B w wr) {k : Nat} (hk : k < n) :
    ∃ b off, A = some ⟨b, off, none⟩ ∧ b < B ∧ ∀ k, k < n → wr.cell? ⟨b, off + k, none⟩ = some (.int .i64 (el zs k)) := by
  obtain ⟨b, off, e, hlt, hc⟩ := h.2 (by omega)
  exact ⟨b, off, e, hlt, fun j hj => (hb.cell (p := ⟨b, off + j, none⟩) hlt).trans (hc j hj)⟩

/-- Integers as cells. -/
def icells (zs : List Int) : List Value := zs.map fun z => .int .i64 z
theorem icells_app (a b : List Int) : icells (a ++ b) = icells a ++ icells b := by simp [icells]
theorem ints_of_own {base n c : Nat} {A : Option Addr} {zs : List Int} {w : World} (hown : w.ownsRow base 3 1 (.slice A n c) n (icells zs)) : IntsAt w.heap.size w A n zs := by
  have hl : zs.length = n := by have := hown.1; simpa [icells] using this
  refine ⟨hl, fun hn => ?_⟩
  rcases hown.2 with ⟨_, h2⟩ | ⟨g, cap, cur, h, _⟩
  · omega
  · injection h with h1 h2
    subst h1
    have hg := hown.lt g rfl
    refine ⟨g, 0, rfl, hg.2, fun k hk => ?_⟩
    rw [Nat.zero_add, hown.cellAt k (by omega)]
    unfold icells el
    simp [List.getD, List.getElem?_eq_getElem (show k < zs.length by omega)]

theorem info3 : (Tryz.prog.info? 3).map (fun i => (i.zero, i.size, i.bytes)) = some (some (.int .i64 0), 1, 8) := by kernel_rfl
theorem new_one (w : World) (o1 : Obj) (f : Int) (ty : TypeId) (j : Nat) (u : Value) (h : [Value.int .i64 f][j]? = some u) :
    ((w.alloc o1).alloc (.cells #[.int .i64 f] ty)).cell? ((⟨w.heap.size + 1, 0, none⟩ : Addr).add j) = some u := by
  match j, h with
  | 0, h =>
    rw [show ((⟨w.heap.size + 1, 0, none⟩ : Addr).add 0) = ⟨w.heap.size + 1, 0, none⟩ from rfl, World.cell?_alloc_at _ _ _ _ (by simp)]
    exact h
theorem new_one' (w : World) (f : Int) (ty : TypeId) (j : Nat) (u : Value) (h : [Value.int .i64 f][j]? = some u) :
    (w.alloc (.cells #[.int .i64 f] ty)).cell? ((⟨w.heap.size, 0, none⟩ : Addr).add j) = some u := by
  match j, h with
  | 0, h =>
    rw [show ((⟨w.heap.size, 0, none⟩ : Addr).add 0) = ⟨w.heap.size, 0, none⟩ from rfl, World.cell?_alloc_at _ _ _ _ rfl]
    exact h

/-- A slice that reads as these integers is handed back. -/
def IntsRet (zs : List Int) (e : Ending) (w' : World) : Prop := ∃ (A : Option Addr) (n c : Nat), e = .returned (.slice A n c) ∧ IntsAt w'.heap.size w' A n zs ∧ n ≤ 4000000
theorem own_slice {w : World} {base e size n : Nat} {v : Value} {xs : List Value} (h : w.ownsRow base e size v (n + 1) xs) : ∃ A2 c2, v = .slice A2 (n + 1) c2 := by
  rcases h.2 with ⟨_, h⟩ | ⟨g, cap, cur, rfl, _⟩
  · omega
  · exact ⟨_, _, rfl⟩
/-- Every list of spans has a canonical list. -/
theorem canon_list (L : List Sp) : Is (canon (memB L)) (memB L) := by
  have hp := List.mergeSort_perm (partsOf L) (fun a b : Sp => decide (a.1 ≤ b.1))
  have hs := List.pairwise_mergeSort (le := fun a b : Sp => decide (a.1 ≤ b.1)) (by intro a b c h1 h2; simp at *; omega) (by intro a b; simp; omega) (partsOf L)
  have ho : Ord ((partsOf L).mergeSort fun a b : Sp => decide (a.1 ≤ b.1)) := by
    intro i j hij hj
    have := List.pairwise_iff_getElem.1 hs i j (by omega) hj hij
    unfold fr
    simpa [List.getD, List.getElem?_eq_getElem hj, List.getElem?_eq_getElem (Nat.lt_trans hij hj)] using this
  have h := norm_is L _ hp ho
  rw [← canon_is h]
  exact h
end Go.Proofs.YtplphinaeikpmaaGreatDoor
