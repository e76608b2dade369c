/-
  The reference's Say, Column, Wide.
-/
import Derived.Test.YtdkalehijilchaaWCe
namespace Go.Proofs.Ytdkalehijilchaa.Pb
open Go Go.Pv Go.RowKit
set_option linter.unusedSimpArgs false
open Lab Lcs Go.Proofs.Ytdkalehijilchaa Go.Proofs.Ytdkalehijilchaa.Pu Go.Proofs.Ytdkalehijilchaa.Pt
set_option maxRecDepth 10000
set_option maxHeartbeats 8000000
theorem say_nil : say [] = ⟨#[]⟩ := joinS_nil sp
def shortW (l : List Wd) : Prop := l.length ≤ 300 ∧ ∀ a ∈ l, a.text.size ≤ 100
theorem shortW.take {l : List Wd} (h : shortW l) (k : Nat) : (say (l.take k)).size ≤ 30300 := by
 have h1 := say_size (l := l.take k) fun a ha => h.2 a (List.mem_of_mem_take ha)
 have h2 : (l.take k).length ≤ 300 := by rw [List.length_take]; have := h.1; omega
 omega
theorem shortW.say {l : List Wd} (h : shortW l) : (Pb.say l).size ≤ 30300 := by
 have := h.take l.length
 rw [List.take_length] at this
 exact this
theorem cell_short {t r : Ut} (h : Smal t) (hr : r ∈ t.kids) (j : Nat) : shortW (cellW r j) := by
 unfold cellW
 cases hc : r.kids[j]? with
 | none => exact ⟨Nat.zero_le _, fun a ha => by cases ha⟩
 | some y =>
   have := (h.kid hr).kid (List.mem_of_getElem? hc) y (all_self y)
   exact this.2
def colC (t : Ut) (c : Int) : List Str := if hasB t 0 c = true then colL t c.toNat else []
end Go.Proofs.Ytdkalehijilchaa.Pb
