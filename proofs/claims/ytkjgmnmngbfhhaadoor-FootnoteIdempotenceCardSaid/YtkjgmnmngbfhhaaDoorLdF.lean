/-
  What the rows of footnote list.
-/
import Derived.Test.YtkjgmnmngbfhhaaDoorLaid
namespace Go.Proofs.YtkjgmnmngbfhhaaDoor
open Go.ChangeShapes Go.WideShapes Go.ChangeAt Go.RowKit
open Go.Lib (VarReads)
def tabsF : List (String × DataW Unit) := [("math/bits.deBruijn32tab", Rows.laid_math_bits_deBruijn32tab), ("math/bits.deBruijn64tab", Rows.laid_math_bits_deBruijn64tab), ("internal/strconv.uint64pow10", Rows.laid_internal_strconv_uint64pow10), ("unicode/utf8.acceptRanges", Rows.laid_unicode_utf8_acceptRanges), ("unicode/utf8.first", Rows.laid_unicode_utf8_first)]
set_option maxRecDepth 100000 in
theorem tabF_of_laid {W : World} (h : laidMetH Tryd.prog tabsF W) : Tab W := by
 rw [MakeChecks.laidMetH_plain _ _ _ (by kernel_rfl)] at h
 have r1 := Lib.laidMet.reads h (n := "unicode/utf8.first") (d := Rows.laid_unicode_utf8_first) (by unfold tabsF; simp)
 have r2 := Lib.laidMet.reads h (n := "unicode/utf8.acceptRanges") (d := Rows.laid_unicode_utf8_acceptRanges) (by unfold tabsF; simp)
 rw [first_data] at r1
 rw [accept_data] at r2
 exact ⟨trivial, utf8Tabs_of_reads Tryd.lays260 u8x r1 r2⟩
end Go.Proofs.YtkjgmnmngbfhhaaDoor
