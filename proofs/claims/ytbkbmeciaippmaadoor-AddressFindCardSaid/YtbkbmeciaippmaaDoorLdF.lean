/-
  What the row of AddressFind lists.
-/
import Derived.Test.YtbkbmeciaippmaaDoorLaid
namespace Go.Proofs.YtbkbmeciaippmaaDoor
open Go.ChangeShapes Go.WideShapes Go.ChangeAt Go.RowKit
open Go.Lib (VarReads)
/-- The list of laid variables of AddressFind's row. -/
def tabsF : List (String × DataW Unit) := [("unicode/utf8.acceptRanges", Rows.laid_unicode_utf8_acceptRanges), ("pandect/unit.kindNames", Rows.laid_pandect_unit_kindNames), ("unicode/utf8.first", Rows.laid_unicode_utf8_first)]
set_option maxRecDepth 100000 in
theorem tabF_of_laid {W : World} (h : laidMetH Tryd.prog tabsF W) : Tab W ∧ TabK W := by
  rw [MakeChecks.laidMetH_plain _ _ _ (by kernel_rfl)] at h
  have r1 := Lib.laidMet.reads h (n := "unicode/utf8.first") (d := Rows.laid_unicode_utf8_first) (by unfold tabsF; simp)
  have r2 := Lib.laidMet.reads h (n := "unicode/utf8.acceptRanges") (d := Rows.laid_unicode_utf8_acceptRanges) (by unfold tabsF; simp)
  have r3 := Lib.laidMet.reads h (n := "pandect/unit.kindNames") (d := Rows.laid_pandect_unit_kindNames) (by unfold tabsF; simp)
  rw [first_data] at r1
  rw [accept_data] at r2
  exact ⟨⟨trivial, utf8Tabs_of_reads Tryd.lays260 u8x r1 r2⟩, tabK_of r3⟩
end Go.Proofs.YtbkbmeciaippmaaDoor
