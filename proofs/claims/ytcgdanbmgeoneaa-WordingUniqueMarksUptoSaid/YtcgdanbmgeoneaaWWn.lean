/-
  Rows of strings that came in are no longer than what is read of them.
-/
import Derived.Test.YtcgdanbmgeoneaaWWm
import Derived.Test.YtcgdanbmgeoneaaWWo
import Derived.Test.YtcgdanbmgeoneaaRows
import Derived.ProofKit
import Derived.SizedLaws
import Derived.OpenShut
namespace Go.Proofs.Ytcgdanbmgeoneaa.Pw
open Go Go.Pv Go.RowKit Go.Proofs.Ytcgdanbmgeoneaa.Pu Go.Proofs.Ytcgdanbmgeoneaa.Pb
set_option linter.unusedSimpArgs false
open Lab Lcs Go.Proofs.Ytcgdanbmgeoneaa Go.ChangeShapes Go.WideShapes Go.ChangeAt
theorem one_le {H : Type} (d : DataW H) : 1 ≤ Rows.uptoBulk d := by
 cases d with
 | lit l => cases l <;> simp [Rows.uptoBulk]
 | nil => simp [Rows.uptoBulk]
 | ptr d => simp [Rows.uptoBulk]
 | slice elems spare => simp [Rows.uptoBulk]
 | agg parts => simp [Rows.uptoBulk]
 | iface t d => simp [Rows.uptoBulk]
 | map entries => simp [Rows.uptoBulk]
 | held h => simp [Rows.uptoBulk]
theorem len_bulk {H : Type} : ∀ l : List (DataW H), l.length ≤ Rows.uptoBulkAll l
 | [] => Nat.zero_le _
 | d :: l => by
   have h1 := one_le d
   have h2 := len_bulk l
   simp only [List.length_cons, Rows.uptoBulkAll]
   omega
theorem strs_bulk {H : Type} {enc : TypeId × Value → H} {W : World} {a : Option Addr} {n c : Nat} {d : DataW H} {p : List MemPlace} {L : List Str} {Q : Nat → Prop}
   (h : DataW.Trod enc Try.prog W 0 (fun _ => true) true 34 (.slice a n c) d p) (hr : RepI Q W (.sl 1 (L.map IV.str)) (.slice a n c)) : L.length ≤ Rows.uptoBulk d := by
 have hL : L.length = n := by
   unfold RepI at hr
   obtain ⟨a', c', e, _⟩ := hr
   injection e with _ e _
   rw [List.length_map] at e
   exact e.symm
 obtain ⟨m, hm⟩ := h
 rcases DataW.trod_slice Try.underlying34 hm with ⟨hcs, _⟩ | ⟨x, len, cap, elems, rest, n', hn', hcs, hy, _, hlc, hm, hel, _⟩
 · have e : (Value.slice a n c).cells.toList = [Value.slice a n c] := rfl
   rw [e] at hcs
   injection hcs with hcs _
   injection hcs with _ hcs _
   omega
 · have e : (Value.slice a n c).cells.toList = [Value.slice a n c] := rfl
   rw [e] at hcs
   injection hcs with hcs _
   injection hcs with _ hcs _
   injection hy with hy _
   subst hy
   have := len_bulk (elems.map (·.1))
   rw [List.length_map] at this
   simp only [Rows.uptoBulk]
   omega
end Go.Proofs.Ytcgdanbmgeoneaa.Pw
