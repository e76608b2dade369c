/-
  The law of Set and Get, for arguments that came in.
-/
import Derived.Test.YtdkalehijilchaaTo
import Derived.Test.YtdkalehijilchaaWCu
namespace Go.Proofs.Ytdkalehijilchaa.Pt
open Go Go.Pv Go.Proofs.Ytdkalehijilchaa Go.Proofs.Ytdkalehijilchaa.Pu
open Lab Lcs Go.Proofs.Ytdkalehijilchaa Go.RowKit Go.Proofs.Ytdkalehijilchaa.Pb
section
variable {H : Type} {enc : TypeId × Value → H} {w : World} {bs : Nat} {spare : Nat → Bool} {held : Bool}
theorem words_open {a : Option Addr} {n c : Nat} {d : DataW H} {p : List MemPlace} (h : ∃ fuel, DataW.trod enc Try.prog w bs spare held fuel 24 (Value.slice a n c).cells.toList = some (d, p)) :
   ∃ L : List Wd, RepI (fun b => b < w.heap.size) w (.sl 4 (L.map wdv)) (.slice a n c) ∧ L.length ≤ maxLen := by
 obtain ⟨css, h1, h2, h3⟩ := open_sl S0_ok (by decide) Try.underlying24 h
 obtain ⟨L, h4, h5, h6⟩ := elems_of (f := wdv) (ok := okWd) (fun cs hcs => by rw [agg_word]; exact word_of hcs) css h3
 rw [h4, c_word] at h1
 exact ⟨L, h1, by omega⟩
end
theorem tgetsetL (u : Ut) (_ : Fit u) (r c : Int) (l : List Wd) (_hl : l.length ≤ maxLen) (i k : Int) : PC Try.prog env0 3 [uv u, .int .i64 r, .int .i64 c, .sl 4 (l.map wdv), .int .i64 i, .int .i64 k] [.bool true] := tgetset_pc u r c l i k
end Go.Proofs.Ytdkalehijilchaa.Pt
