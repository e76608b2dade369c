/-
  How sequences that came in lie in memory.
-/
import Derived.Deep.Strs
import Derived.ProofKit
import Derived.SizedLaws
import Derived.OpenShut
import Derived.Test.YtbjdfghakhplnaaDoorSq
import Derived.Maps.OwnSet
import Derived.StringKeys
namespace Go.Proofs.YtbjdfghakhplnaaDoor
open Go.ChangeShapes Go.WideShapes Go.ChangeAt Go.RowKit
open Lab

/-- A slice that came in, or was made: its length is at most its capacity. -/
def Slc (B : Nat) (w : World) (A : Option Addr) (n c : Nat) (L : List Value) : Prop := ValsAt B w A n L ∧ n ≤ c ∧ c ≤ 9223372036854775807 ∧ n ≤ 8796093022207 ∧ B ≤ w.heap.size
theorem Slc.below {B : Nat} {w w' : World} {A : Option Addr} {n c : Nat} {L : List Value} (h : Slc B w A n c L) (hb : Below w.heap.size w w') : Slc B w' A n c L :=
  ⟨h.1.below (hb.mono h.2.2.2.2), h.2.1, h.2.2.1, h.2.2.2.1, Nat.le_trans h.2.2.2.2 hb.size⟩

def Sq (w : World) (A : Option Addr) (n c : Nat) (L : List Str) : Prop := Slc w.heap.size w A n c (sv L) ∧ (0 < c → ∃ b off, A = some ⟨b, off, none⟩)
theorem Sq.below {w w' : World} {A : Option Addr} {n c : Nat} {L : List Str} (h : Sq w A n c L) (hb : Below w.heap.size w w') : Sq w' A n c L :=
  ⟨⟨(h.1.1.below hb).mono hb.size, h.1.2.1, h.1.2.2.1, h.1.2.2.2.1, Nat.le_refl _⟩, h.2⟩
theorem Sq.len {w : World} {A : Option Addr} {n c : Nat} {L : List Str} (h : Sq w A n c L) : L.length = n := by
  have := h.1.1.1
  rwa [sv_len] at this
theorem Sq.of_own {w : World} {base n c : Nat} {e : TypeId} {A : Option Addr} {L : List Str} (h : w.ownsRow base e 1 (.slice A n c) n (sv L)) (hn : n ≤ 8796093022207) : Sq w A n c L := by
  refine ⟨⟨ValsAt.of_own h, ?_, ?_, hn, Nat.le_refl _⟩, ?_⟩
  · obtain ⟨_, _, he, h1, _⟩ := own_slice h
    injection he with _ _ h3
    omega
  · obtain ⟨_, _, he, _, h1⟩ := own_slice h
    injection he with _ _ h3
    omega
  · intro hc
    rcases h.2 with ⟨he, _⟩ | ⟨g, cap, cur, he, _⟩
    · injection he with _ _ h3
      omega
    · injection he with h1 _ _
      exact ⟨g, 0, h1⟩
theorem laidOut : laidOutB Tryd.prog = true := by kernel_rfl
theorem cStr : Tryd.prog.cellsOf 9 = 1 := by kernel_rfl
theorem bStr : Tryd.prog.bytesOf 9 = 16 := by kernel_rfl
theorem row_head (x : Addr) (n : Nat) (h : 0 < n) : MemPlace.cell x.block (x.off + 0) ∈ MemPlace.row x n := by
  unfold MemPlace.row
  exact List.mem_map.2 ⟨0, by simpa using h, rfl⟩
/-- A slice of strings that came in, as the walks read it. -/
theorem strs_open {H : Type} {enc : TypeId × Value → H} {W : World} {a : Option Addr} {n c : Nat} {d : DataW H} {p : List MemPlace}
    (h : ∃ fuel, DataW.trod enc Tryd.prog W 0 (fun _ => true) true fuel 34 (Value.slice a n c).cells.toList = some (d, p)) (lt : ∀ x ∈ p, x.block < W.heap.size)
    (hz : ∀ elems spare, d = .slice elems spare → (elems.length + spare.length) * Tryd.prog.bytesOf 9 ≤ reachBytes) :
    ∃ L, Sq W a n c L := by
  obtain ⟨fuel, hf⟩ := h
  rcases Deep.open_strs Tryd.underlying34 Tryd.underlying9 cStr hf with ⟨hcs, _⟩ | ⟨x, l, k, m, Sx, hcs, _, hl, hm, hmm, hx, hc⟩
  · simp [Value.cells] at hcs
    obtain ⟨rfl, rfl, rfl⟩ := hcs
    exact ⟨[], ⟨⟨ValsAt.nil _ _ _, by omega, by omega, by omega, Nat.le_refl _⟩, fun h => absurd h (by omega)⟩⟩
  · simp [Value.cells] at hcs
    obtain ⟨rfl, rfl, rfl⟩ := hcs
    rw [if_pos rfl] at hmm
    subst hmm
    obtain ⟨rfl, rfl⟩ := Prod.mk.inj hx
    have hr := hz _ _ rfl
    rw [bStr, List.length_map, List.length_map, List.length_range, List.length_range] at hr
    have hn : n ≤ 8796093022207 := by unfold reachBytes at hr; omega
    have spot : 0 < m → ∃ b off, some x = some (⟨b, off, none⟩ : Addr) := by
      intro h0
      have hs := World.cell?_spot (hc 0 (by omega)).1
      obtain ⟨b, off, sp⟩ := x
      have hsp : sp = none := by simpa [Addr.add] using hs
      subst hsp
      exact ⟨b, off, rfl⟩
    refine ⟨(List.range n).map Sx, ⟨⟨⟨by simp [sv], fun h0 => ?_⟩, hl, by unfold maxLen at hm; omega, hn, Nat.le_refl _⟩, spot⟩⟩
    obtain ⟨b, off, he⟩ := spot (by omega)
    have he' : x = ⟨b, off, none⟩ := by injection he
    subst he'
    refine ⟨b, off, rfl, lt (.cell b (off + 0)) (row_head _ _ (by omega)), fun k u hk => ?_⟩
    have hkn : k < n := by
      have := (List.getElem?_eq_some_iff.1 hk).1
      simpa [sv] using this
    have h1 := (hc k (by omega)).1
    rw [Go.WideShapes.add_plain] at h1
    rw [h1]
    simp [sv, hkn] at hk
    exact congrArg some hk
end Go.Proofs.YtbjdfghakhplnaaDoor
