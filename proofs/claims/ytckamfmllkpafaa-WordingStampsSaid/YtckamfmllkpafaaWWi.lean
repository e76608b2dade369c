/-
  Brief, Short, few; the law's few.
-/
import Derived.Test.YtckamfmllkpafaaWWh
namespace Go.Proofs.Ytckamfmllkpafaa.Pw
open Go Go.Pv Go.RowKit Go.Proofs.Ytckamfmllkpafaa.Pu Go.Proofs.Ytckamfmllkpafaa.Pb
set_option linter.unusedSimpArgs false
open Lab Lcs Go.Proofs.Ytckamfmllkpafaa
set_option maxRecDepth 10000
set_option maxHeartbeats 16000000
theorem tqf_ss : tdOf Try.prog 59 = some ⟨false, 1, [.nil], .slice 34 1 24⟩ := by kernel_rfl
def tdf : List (TypeId × TD) := (59, ⟨false, 1, [.nil], .slice 34 1 24⟩) :: tdl
theorem tdf_ok : AllTd Try.prog tdf := ⟨tqf_ss, tdl_ok⟩
def tbe (fr : Nat → List Nat) (hk : Nat → Bool) : Tb := ⟨Pv.look tdf, eqs, fun _ => none, fr, hk, fun _ => 0⟩
theorem tbf_ok {fr : Nat → List Nat} {hk : Nat → Bool} : ∀ t d, (tbe fr hk).td t = some d → tdOf Try.prog t = some d := Pv.look_ok tdf_ok
def s100 (s : Str) : Bool := decide (s.size ≤ 100)
def shortW (w : List Wd) : Bool := w.all (fun x => s100 x.text) && decide (w.length ≤ 300)
theorem all_take {α : Type} {f : α → Bool} {l : List α} {k : Nat} {x : α} (hx : l[k]? = some x) (h : (l.take k).all f = true) (hf : f x = true) : (l.take (k + 1)).all f = true := by
 rw [take_at hx, List.all_append, h]
 simp [hf]
theorem all_no {α : Type} {f : α → Bool} {l : List α} {k : Nat} {x : α} (hx : l[k]? = some x) (hf : f x = false) : l.all f = false := by
 rw [List.all_eq_false]
 exact ⟨x, List.mem_of_getElem? hx, by rw [hf]; decide⟩
end Go.Proofs.Ytckamfmllkpafaa.Pw
