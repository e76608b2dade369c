/-
  How trees that came in lie in memory: words, units.
-/
import Derived.Deep.Slices
import Derived.ChangeSame
import Derived.ProofKit
import Derived.SizedLaws
import Derived.OpenShut
import Derived.Test.YtmnbobcgjnickaaGreatDoorTree
namespace Go.Proofs.YtmnbobcgjnickaaGreatDoor
open Go.ChangeShapes Go.WideShapes Go.ChangeAt Go.RowKit
open Lcs
instance : Inhabited Wd := ⟨⟨ByteArray.empty, ⟨0, 0, 0⟩⟩⟩
instance : Inhabited Ut := ⟨.mk ⟨0, 0, 0⟩ 0 ByteArray.empty [] [] []⟩
section
variable {H : Type} {enc : TypeId × Value → H} {W : World}
theorem spot_of {x : Addr} {v : Value} (h : W.cell? (x.add 0) = some v) : ∃ b off, x = (⟨b, off, none⟩ : Addr) := by
 have hs := World.cell?_spot h
 obtain ⟨b, off, sp⟩ := x
 have hsp : sp = none := by simpa [Addr.add] using hs
 subst hsp
 exact ⟨b, off, rfl⟩
end
end Go.Proofs.YtmnbobcgjnickaaGreatDoor
