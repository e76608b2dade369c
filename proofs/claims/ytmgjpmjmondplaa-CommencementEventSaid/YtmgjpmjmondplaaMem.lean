/-
  Slices of spans in memory.
-/
import Derived.Handy
import Derived.WalkMore
import Derived.Lib.Hide
import Derived.WalkLawsBesides
import Derived.WalkSpells
import Derived.Deep.QuietTactic
import Derived.BigQuiet
import Derived.Deep.Draws
import Derived.Test.YtmgjpmjmondplaaProg
import Derived.Test.YtmgjpmjmondplaaSpans
namespace Go.Proofs.Ytmgjpmjmondplaa
open Go.RowKit (wrap32 wrap64 intOf Hid Below)
open Spans
theorem ret_int {k : IntKind} {a b : Int} (h : a = b) : Ending.returned (.int k a) = .returned (.int k b) := by rw [h]
def fr (L : List Sp) (k : Nat) : Int := (L.getD k (0, 0)).1
def to (L : List Sp) (k : Nat) : Int := (L.getD k (0, 0)).2
def SpansAt (B : Nat) (w : World) (A : Option Addr) (n : Nat) (L : List Sp) : Prop :=
 L.length = n ∧ (0 < n → ∃ b off, A = some ⟨b, off, none⟩ ∧ b < B ∧ ∀ k, k < n → w.cell? ⟨b, off + k * 2, none⟩ = some (.int .i64 (fr L k)) ∧ w.cell? ⟨b, off + k * 2 + 1, none⟩ = some (.int .i64 (to L k)))
theorem SpansAt.below {B : Nat} {w w' : World} {A : Option Addr} {n : Nat} {L : List Sp} (h : SpansAt B w A n L) (hb : Below B w w') : SpansAt B w' A n L :=
 ⟨h.1, fun hn => by
   obtain ⟨b, off, e, hlt, hc⟩ := h.2 hn
   exact ⟨b, off, e, hlt, fun k hk => ⟨(hb.cell (p := ⟨b, off + k * 2, none⟩) hlt).trans (hc k hk).1, (hb.cell (p := ⟨b, off + k * 2 + 1, none⟩) hlt).trans (hc k hk).2⟩⟩⟩
theorem SpansAt.mono {B B' : Nat} {w : World} {A : Option Addr} {n : Nat} {L : List Sp} (h : SpansAt B w A n L) (hB : B ≤ B') : SpansAt B' w A n L :=
 ⟨h.1, fun hn => by
   obtain ⟨b, off, e, hlt, hc⟩ := h.2 hn
   exact ⟨b, off, e, by omega, hc⟩⟩
theorem SpansAt.cells {B : Nat} {w wr : World} {A : Option Addr} {n : Nat} {L : List Sp} (h : SpansAt B w A n L) (hb : Below B w wr) {k : Nat} (hk : k < n) :
   ∃ b off, A = some ⟨b, off, none⟩ ∧ b < B ∧ wr.cell? ⟨b, off + k * 2, none⟩ = some (.int .i64 (fr L k)) ∧ wr.cell? ⟨b, off + k * 2 + 1, none⟩ = some (.int .i64 (to L k)) := by
 obtain ⟨b, off, e, hlt, hc⟩ := h.2 (by omega)
 exact ⟨b, off, e, hlt, (hb.cell (p := ⟨b, off + k * 2, none⟩) hlt).trans (hc k hk).1, (hb.cell (p := ⟨b, off + k * 2 + 1, none⟩) hlt).trans (hc k hk).2⟩
end Go.Proofs.Ytmgjpmjmondplaa
