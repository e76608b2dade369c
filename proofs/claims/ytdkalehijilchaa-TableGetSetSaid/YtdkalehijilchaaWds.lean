/-
  Words in memory; validWords; the reference's Texts, row and short.
-/
import Derived.Test.YtdkalehijilchaaVal
namespace Go.Proofs.Ytdkalehijilchaa
open Go.RowKit (wrap32 wrap64 intOf Hid Below)
open Lab Lcs
theorem info_parts {P : Program} {e : TypeId} {z : Value} {n b : Nat} (h : (P.info? e).map (fun i => (i.zero, i.size, i.bytes)) = some (some z, n, b)) : ∃ i, P.info? e = some i ∧ i.zero = some z ∧ i.size = n ∧ i.bytes = b := by
 cases hi : P.info? e with
 | none => rw [hi] at h; cases h
 | some i =>
   rw [hi] at h
   simp only [Option.map_some, Option.some.injEq, Prod.mk.injEq] at h
   exact ⟨i, rfl, h.1, h.2.1, h.2.2⟩
theorem Wds.len {w : World} {A : Option Addr} {n c : Nat} {L : List Wd} (h : Wds w A n c L) : L.length = n := h.1
end Go.Proofs.Ytdkalehijilchaa
