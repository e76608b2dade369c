/-
  The contract of IDs.
-/
import Derived.OneCell
import Derived.Test.YtdkalehijilchaaWds
namespace Go.Proofs.Ytdkalehijilchaa
open Go.RowKit (wrap32 wrap64 intOf Hid Below)
open Lab Lcs
mutual
theorem UtC.ok {w : World} : ∀ (u : Ut) (vs : List Value), UtC w u vs → ∀ x ∈ u.all, x.id.ok ∧ inI x.kind
 | .mk id kind label head words kids, vs, h => by
   unfold UtC at h
   obtain ⟨_, _, _, _, _, _, _, _, _, _, _, _, ho, _, _, _, _, _, _, h7⟩ := h
   intro x hx
   rw [all_mk] at hx
   rcases List.mem_cons.1 hx with rfl | hx
   · exact ho
   · exact UtR.ok _ _ kids h7 x hx
theorem UtR.ok {w : World} : ∀ (b off : Nat) (l : List Ut), UtR w b off l → ∀ x ∈ Ut.alls l, x.id.ok ∧ inI x.kind
 | _, _, [], _ => by intro x hx; simp [Ut.alls] at hx
 | b, off, u :: r, h => by
   unfold UtR at h
   obtain ⟨_, ⟨vs, h1, _⟩, h3⟩ := h
   intro x hx
   simp only [Ut.alls, List.mem_append] at hx
   rcases hx with hx | hx
   · exact UtC.ok u vs h1 x hx
   · exact UtR.ok b (off + 8) r h3 x hx
end
end Go.Proofs.Ytdkalehijilchaa
