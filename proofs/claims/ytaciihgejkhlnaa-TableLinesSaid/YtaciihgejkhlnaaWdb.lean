/-
  Words: the reference's Texts, row and short; unmarked; equality of rows.
-/
import Derived.Test.YtaciihgejkhlnaaWds
namespace Go.Proofs.Ytaciihgejkhlnaa
open Go.RowKit (wrap32 wrap64 intOf Hid Below)
open Lab Lcs
theorem all_take {L : List Wd} {k : Nat} {a : Wd} {p : Wd → Bool} (h : L[k]? = some a) (h1 : (L.take k).all p = true) (hp : p a = true) : (L.take (k + 1)).all p = true := by
 obtain ⟨hk, he⟩ := List.getElem?_eq_some_iff.1 h
 rw [List.take_succ_eq_append_getElem hk, List.all_append, h1, he]
 simp [hp]
end Go.Proofs.Ytaciihgejkhlnaa
