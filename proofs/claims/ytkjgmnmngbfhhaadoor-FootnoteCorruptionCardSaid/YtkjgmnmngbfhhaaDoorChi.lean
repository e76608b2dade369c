/-
  The contract of validChildren.
-/
import Derived.Test.YtkjgmnmngbfhhaaDoorKey
import Derived.Test.YtkjgmnmngbfhhaaDoorIdt
namespace Go.Proofs.YtkjgmnmngbfhhaaDoor
open Go.RowKit (wrap32 wrap64 intOf Hid Below)
open Lab Lcs
open Go.Maps Go.WideMaps
theorem UtV.parts {w : World} {u : Ut} {i1 i2 i3 kd : Int} {lb : Str} {a b c : Value} (h : UtV w u (.agg #[.int .i64 i1, .int .i64 i2, .int .i64 i3, .int .i64 kd, .string lb, a, b, c])) : u.id = ⟨i1, i2, i3⟩ ∧ u.kind = kd ∧ u.label = lb ∧ u.id.ok ∧ inI u.kind := by
 cases u with
 | mk id kind label head words kids =>
   obtain ⟨_, _, _, _, _, _, _, _, _, he, ho, _⟩ := h.open_
   injection he with he
   have e0 := congrArg (fun a => a[0]?) he
   have e1 := congrArg (fun a => a[1]?) he
   have e2 := congrArg (fun a => a[2]?) he
   have e3 := congrArg (fun a => a[3]?) he
   have e4 := congrArg (fun a => a[4]?) he
   simp at e0 e1 e2 e3 e4
   refine ⟨?_, e3.symm, e4.symm, ho⟩
   cases id
   simp only [Ut.id, Trip.mk.injEq]
   exact ⟨e0.symm, e1.symm, e2.symm⟩
end Go.Proofs.YtkjgmnmngbfhhaaDoor
