/-
  Trees in memory, with where they lie.
-/
import Derived.Test.YtkjgmnmngbfhhaaDoorSec
namespace Go.Proofs.YtkjgmnmngbfhhaaDoor
open Go.RowKit (wrap32 wrap64 intOf Hid Below)
open Lab Lcs
def WdsQ (Q : Nat → Prop) (w : World) (A : Option Addr) (n c : Nat) (L : List Wd) : Prop :=
 L.length = n ∧ n ≤ c ∧ c ≤ 9223372036854775807 ∧ (0 < n → ∃ b off, A = some ⟨b, off, none⟩ ∧ Q b ∧ ∀ j u, (wv L)[j]? = some u → w.cell? ⟨b, off + j, none⟩ = some u)
mutual
def UtQ (Q : Nat → Prop) (w : World) : Ut → List Value → Prop
 | .mk id kind label head words kids, vs => ∃ (Ah Aw Ak : Option Addr) (nh ch nw cw nk ck b off : Nat), vs = [.int .i64 id.x, .int .i64 id.y, .int .i64 id.z, .int .i64 kind, .string label, .slice Ah nh ch, .slice Aw nw cw, .slice Ak nk ck] ∧ (id.ok ∧ inI kind) ∧
     WdsQ Q w Ah nh ch head ∧ WdsQ Q w Aw nw cw words ∧ nk = kids.length ∧ nk ≤ ck ∧ ck ≤ 9223372036854775807 ∧ (0 < nk → Ak = some ⟨b, off, none⟩ ∧ Q b) ∧ UtRQ Q w b off kids
def UtRQ (Q : Nat → Prop) (w : World) (b off : Nat) : List Ut → Prop
 | [] => True
 | u :: r => Q b ∧ (∃ vs, UtQ Q w u vs ∧ ∀ j v, vs[j]? = some v → w.cell? ⟨b, off + j, none⟩ = some v) ∧ UtRQ Q w b (off + 8) r
end
mutual
theorem UtQ.plain {w : World} : ∀ (u : Ut) (vs : List Value), UtQ (fun b => b < w.heap.size) w u vs → UtC w u vs
 | .mk id kind label head words kids, vs, h => by
   unfold UtQ at h
   unfold UtC
   obtain ⟨Ah, Aw, Ak, nh, ch, nw, cw, nk, ck, b, off, e, ho, g1, g2, g3, g4, g5, g6, g7⟩ := h
   exact ⟨Ah, Aw, Ak, nh, ch, nw, cw, nk, ck, b, off, e, ho, g1, g2, g3, g4, g5, g6, UtRQ.plain b off kids g7⟩
theorem UtRQ.plain {w : World} : ∀ (b off : Nat) (l : List Ut), UtRQ (fun b => b < w.heap.size) w b off l → UtR w b off l
 | _, _, [], _ => by unfold UtR; trivial
 | b, off, u :: r, h => by
   unfold UtRQ at h
   unfold UtR
   obtain ⟨hq, ⟨vs, g1, g2⟩, g3⟩ := h
   exact ⟨hq, ⟨vs, UtQ.plain u vs g1, g2⟩, UtRQ.plain b (off + 8) r g3⟩
end
theorem WdsQ.nil (Q : Nat → Prop) (w : World) : WdsQ Q w none 0 0 [] := ⟨rfl, Nat.le_refl _, by omega, fun h => absurd h (by omega)⟩
end Go.Proofs.YtkjgmnmngbfhhaaDoor
