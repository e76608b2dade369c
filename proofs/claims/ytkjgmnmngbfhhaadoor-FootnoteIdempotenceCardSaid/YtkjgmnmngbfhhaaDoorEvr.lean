/-
  The contract of every, for a test that reads only.
-/
import Derived.Test.YtkjgmnmngbfhhaaDoorDep
namespace Go.Proofs.YtkjgmnmngbfhhaaDoor
open Go.RowKit (wrap32 wrap64 intOf Hid Below)
open Lab Lcs
theorem all_bad_kid {p : Ut → Bool} {id : Trip} {kind : Int} {label : Str} {head words : List Wd} {kids : List Ut} {k : Nat} {u : Ut} (hu : kids[k]? = some u) (h : u.all.all p = false) : (Ut.mk id kind label head words kids).all.all p = false := by
 rw [List.all_eq_false] at h ⊢
 obtain ⟨x, hx, hp⟩ := h
 exact ⟨x, kid_all hu x hx, hp⟩
theorem all_bad_self {p : Ut → Bool} {u : Ut} (h : p u = false) : u.all.all p = false := by
 rw [List.all_eq_false]
 exact ⟨u, self_all u, by rw [h]; decide⟩
theorem all_good_kids {p : Ut → Bool} {id : Trip} {kind : Int} {label : Str} {head words : List Wd} {kids : List Ut} (h : p (.mk id kind label head words kids) = true) (hk : (Ut.alls kids).all p = true) : (Ut.mk id kind label head words kids).all.all p = true := by
 rw [all_mk, List.all_cons, h, hk]
 rfl
theorem all_step {p : Ut → Bool} {kids : List Ut} {k : Nat} {u : Ut} (hu : kids[k]? = some u) (h1 : (Ut.alls (kids.take k)).all p = true) (h2 : u.all.all p = true) : (Ut.alls (kids.take (k + 1))).all p = true := by
 rw [alls_take hu, List.all_append, h1, h2]
 rfl
end Go.Proofs.YtkjgmnmngbfhhaaDoor
