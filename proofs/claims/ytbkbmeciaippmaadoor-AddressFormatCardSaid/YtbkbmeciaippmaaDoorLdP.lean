/-
  What the rows of AddressFormat and AddressParse list.
-/
import Derived.Test.YtbkbmeciaippmaaDoorLaid
import Derived.Test.YtbkbmeciaippmaaDoorT2
namespace Go.Proofs.YtbkbmeciaippmaaDoor
open Go.ChangeShapes Go.WideShapes Go.ChangeAt Go.RowKit
open Go.Lib (VarReads)
/-- The list of laid variables of the rows of AddressFormat and AddressParse. -/
def tabsP : List (String × DataW Unit) := [("unicode/utf8.acceptRanges", Rows.laid_unicode_utf8_acceptRanges), ("unicode.White_Space", Rows.laid_unicode_White_Space), ("strings.asciiSpace", Rows.laid_strings_asciiSpace), ("pandect/unit.kindNames", Rows.laid_pandect_unit_kindNames), ("unicode/utf8.first", Rows.laid_unicode_utf8_first)]
theorem white_data : Rows.laid_unicode_White_Space (H := Unit) = Lib.whiteData := by kernel_rfl
theorem space_data : Rows.laid_strings_asciiSpace (H := Unit) = Lib.tabData .u8 Lib.asciiSpaceTab := by kernel_rfl
theorem whx : WhiteExtra Tryd.prog Tryd.lays199_ren := ⟨by kernel_rfl, by kernel_rfl, by kernel_rfl, by kernel_rfl, by kernel_rfl, by kernel_rfl, by kernel_rfl, by kernel_rfl⟩
theorem gAsc : Tryd.prog.globalNamed "strings.asciiSpace" = some 2 := by kernel_rfl
theorem tAsc : (Tryd.prog.globals[2]?).map (·.type) = some 114 := by kernel_rfl
theorem cU8 : Tryd.prog.cellsOf 5 = 1 := by kernel_rfl
theorem cAsc : Tryd.prog.cellsOf 114 = 256 := by kernel_rfl
theorem space_of {W : World} (h : VarReads Tryd.prog W "strings.asciiSpace" Rows.laid_strings_asciiSpace) : Lib.TabIs Tryd.prog W "strings.asciiSpace" .u8 Lib.asciiSpaceTab := by
  obtain ⟨g, t, cs, fuel, p, hg, ht, hv, hd⟩ := h
  obtain rfl := Option.some.inj (gAsc.symm.trans hg)
  obtain rfl := Option.some.inj (tAsc.symm.trans ht)
  rw [space_data] at hd
  have hcs := Lib.cells_of_tab Tryd.underlying114 Tryd.underlying5 cU8 cAsc hd
  unfold Lib.TabIs
  rw [hv, ← hcs]
set_option maxRecDepth 100000 in
theorem tabP_of_laid {W : World} (h : laidMetH Tryd.prog tabsP W) : Pa.envP.R W := by
  rw [MakeChecks.laidMetH_plain _ _ _ (by kernel_rfl)] at h
  have r1 := Lib.laidMet.reads h (n := "unicode/utf8.first") (d := Rows.laid_unicode_utf8_first) (by unfold tabsP; simp)
  have r2 := Lib.laidMet.reads h (n := "unicode/utf8.acceptRanges") (d := Rows.laid_unicode_utf8_acceptRanges) (by unfold tabsP; simp)
  have r3 := Lib.laidMet.reads h (n := "pandect/unit.kindNames") (d := Rows.laid_pandect_unit_kindNames) (by unfold tabsP; simp)
  have r4 := Lib.laidMet.reads h (n := "unicode.White_Space") (d := Rows.laid_unicode_White_Space) (by unfold tabsP; simp)
  have r5 := Lib.laidMet.reads h (n := "strings.asciiSpace") (d := Rows.laid_strings_asciiSpace) (by unfold tabsP; simp)
  rw [first_data] at r1
  rw [accept_data] at r2
  rw [white_data] at r4
  exact ⟨⟨⟨trivial, utf8Tabs_of_reads Tryd.lays260 u8x r1 r2⟩, tabK_of r3⟩, space_of r5, whiteTab_of_reads Tryd.lays199 whx r4⟩
end Go.Proofs.YtbkbmeciaippmaaDoor
