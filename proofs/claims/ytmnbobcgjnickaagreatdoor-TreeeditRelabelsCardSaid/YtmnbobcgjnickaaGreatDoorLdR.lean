/-
  What the rows of treeedit list.
-/
import Derived.Test.YtmnbobcgjnickaaGreatDoorLaid
namespace Go.Proofs.YtmnbobcgjnickaaGreatDoor
open Go.ChangeShapes Go.WideShapes Go.ChangeAt Go.RowKit
open Go.Lib (VarReads)
def tabsR : List (String × DataW Unit) := [("unicode/utf8.acceptRanges", Rows.laid_unicode_utf8_acceptRanges), ("pandect/unit.nesting", Rows.laid_pandect_unit_nesting), ("unicode/utf8.first", Rows.laid_unicode_utf8_first)]
set_option maxRecDepth 100000 in
theorem tabR_of_laid {W : World} (h : laidMetH Tryz.prog tabsR W) : Tab W ∧ TabN W := by
 rw [MakeChecks.laidMetH_plain _ _ _ (by kernel_rfl)] at h
 have r1 := Lib.laidMet.reads h (n := "unicode/utf8.first") (d := Rows.laid_unicode_utf8_first) (by unfold tabsR; simp)
 have r2 := Lib.laidMet.reads h (n := "unicode/utf8.acceptRanges") (d := Rows.laid_unicode_utf8_acceptRanges) (by unfold tabsR; simp)
 have r3 := Lib.laidMet.reads h (n := "pandect/unit.nesting") (d := Rows.laid_pandect_unit_nesting) (by unfold tabsR; simp)
 rw [first_data] at r1
 rw [accept_data] at r2
 exact ⟨⟨trivial, utf8Tabs_of_reads Tryz.lays260 u8x r1 r2⟩, tabN_of r3⟩
end Go.Proofs.YtmnbobcgjnickaaGreatDoor
