/-
  What target's rows list.
-/
import Derived.Test.YtiohjjgncbhimaaDoorLaid
namespace Go.Proofs.YtiohjjgncbhimaaDoor
open Go.ChangeShapes Go.WideShapes Go.ChangeAt Go.RowKit
open Go.Lib (VarReads)
def tabsT : List (String × DataW Unit) := [("unicode/utf8.acceptRanges", Rows.laid_unicode_utf8_acceptRanges), ("unicode/utf8.first", Rows.laid_unicode_utf8_first)]
set_option maxRecDepth 100000 in
theorem tabT_of_laid {W : World} (h : laidMetH Tryd.prog tabsT W) : Tab W := by
 rw [MakeChecks.laidMetH_plain _ _ _ (by kernel_rfl)] at h
 have r1 := Lib.laidMet.reads h (n := "unicode/utf8.first") (d := Rows.laid_unicode_utf8_first) (by unfold tabsT; simp)
 have r2 := Lib.laidMet.reads h (n := "unicode/utf8.acceptRanges") (d := Rows.laid_unicode_utf8_acceptRanges) (by unfold tabsT; simp)
 rw [first_data] at r1
 rw [accept_data] at r2
 exact ⟨trivial, utf8Tabs_of_reads Tryd.lays260 u8x r1 r2⟩
end Go.Proofs.YtiohjjgncbhimaaDoor
