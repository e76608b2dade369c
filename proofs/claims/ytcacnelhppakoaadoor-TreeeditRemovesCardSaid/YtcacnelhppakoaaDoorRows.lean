/-
  NARROWER THAN 'FOR EVERY INPUT', by the rows' own cells (each row's printed sentence says how): UnitValidity: loops, laid · UnitLookup: loops, laid · UnitEquality: loops, laid · UnitPaths: loops, laid · UnitCorruption: loops, laid · UnitLimits: laid · AddressFormat: laid · AddressParse: laid · AddressFind: loops, laid · AddressUnique: loops, laid · AddressExtend: loops, laid · TreeeditRemoves: loops, laid · TreeeditRemoveInverse: loops, laid · TreeeditMoveInverse: loops, laid.
  DERIVED. THE GIVEN ROWS OF THIS SEAT. 14 by the template 'for every input the law returns true; each argument reads behind the call as it read before'; 0 by the template 'total and deterministic' (their statements: YtcacnelhppakoaaDoorTotals.lean).
  GIVEN WITH THE SEED: the statements are not yours to turn. If you find one false, say at which input.
  Laid BY PROGRAM, IN A SANDBOX (cutbox-rows.mjs): the forced cells as the released guide's own fill.sh prints them over the translation 243b6a96183151b4… (all of the seat's roots in one cut). By AI agents, Wed Nov 11 2026. No macro, syntax, notation, axiom, sorry.
-/
import Derived.Test.YtcacnelhppakoaaDoorChecked
import GoSem.PinnedTables
import GoSem.Claim
import GoSem.ClaimJoined
import GoSem.ClaimMapViews
import Derived.JoinedTies
import Derived.KernelRfl
namespace Go.Proofs.YtcacnelhppakoaaDoor
/- THE CELL 'sum', in the pinned program and in every row, IS THE sha256 OF THE DUMP (.gsa) THAT YtcacnelhppakoaaDoorProg.lean LOADS. Nothing in Lean hashes anything: it is a label: what it is worth is what the hold of that sum in a sandbox is worth. -/
noncomputable def Tryd.pinned : Pinned := { name := "ytcacnelhppakoaadoor", sum := "243b6a96183151b48275ae2e0566ad52a9bfce3626447866240e0a781e1dd543", checked := Tryd.checked }
namespace Rows
def none {H : Type} : Left H := { results := [], args := [] }

/- WHAT THE LISTED PACKAGE-LEVEL VARIABLES READ AS WHEN THE CALL BEGINS. Each datum BY PROGRAM (the guide's laid-datum.mjs) off the statement by which the dump's own 'gosem.cut.vars' lays the variable. In a bare row this is a premise. The card (YtcacnelhppakoaaDoorCards.lean) ties it to the program's text. -/
def laid_unicode_utf8_acceptRanges {H : Type} : DataW H := .agg [.agg [.lit (.int .u8 128), .lit (.int .u8 191)], .agg [.lit (.int .u8 160), .lit (.int .u8 191)], .agg [.lit (.int .u8 128), .lit (.int .u8 159)], .agg [.lit (.int .u8 144), .lit (.int .u8 191)], .agg [.lit (.int .u8 128), .lit (.int .u8 143)], .agg [.lit (.int .u8 0), .lit (.int .u8 0)], .agg [.lit (.int .u8 0), .lit (.int .u8 0)], .agg [.lit (.int .u8 0), .lit (.int .u8 0)], .agg [.lit (.int .u8 0), .lit (.int .u8 0)], .agg [.lit (.int .u8 0), .lit (.int .u8 0)], .agg [.lit (.int .u8 0), .lit (.int .u8 0)], .agg [.lit (.int .u8 0), .lit (.int .u8 0)], .agg [.lit (.int .u8 0), .lit (.int .u8 0)], .agg [.lit (.int .u8 0), .lit (.int .u8 0)], .agg [.lit (.int .u8 0), .lit (.int .u8 0)], .agg [.lit (.int .u8 0), .lit (.int .u8 0)]]
def laid_pandect_unit_kindNames {H : Type} : DataW H := .agg [.lit (.string [98, 111, 111, 107]), .lit (.string [112, 97, 114, 116]), .lit (.string [115, 101, 99, 116, 105, 111, 110]), .lit (.string [112, 97, 114, 97, 103, 114, 97, 112, 104]), .lit (.string [116, 97, 98, 108, 101]), .lit (.string [114, 111, 119]), .lit (.string [99, 101, 108, 108]), .lit (.string [110, 111, 116, 101])]
def laid_pandect_unit_nesting {H : Type} : DataW H := .agg [.slice [.lit (.int .i64 1), .lit (.int .i64 2)] [], .slice [.lit (.int .i64 2)] [], .slice [.lit (.int .i64 3), .lit (.int .i64 4), .lit (.int .i64 7)] [], .slice [.lit (.int .i64 3), .lit (.int .i64 4), .lit (.int .i64 7)] [], .slice [.lit (.int .i64 5)] [], .slice [.lit (.int .i64 6)] [], .slice [] [], .slice [] []]
/-- One of Go's own tables, pinned by name: the form's constant. -/
def laid_unicode_utf8_first : DataW Unit := Go.Pinned.utf8First
def laid_unicode_White_Space {H : Type} : DataW H := .ptr (.agg [.slice [.agg [.lit (.int .u16 9), .lit (.int .u16 13), .lit (.int .u16 1)], .agg [.lit (.int .u16 32), .lit (.int .u16 133), .lit (.int .u16 101)], .agg [.lit (.int .u16 160), .lit (.int .u16 5760), .lit (.int .u16 5600)], .agg [.lit (.int .u16 8192), .lit (.int .u16 8202), .lit (.int .u16 1)], .agg [.lit (.int .u16 8232), .lit (.int .u16 8233), .lit (.int .u16 1)], .agg [.lit (.int .u16 8239), .lit (.int .u16 8287), .lit (.int .u16 48)], .agg [.lit (.int .u16 12288), .lit (.int .u16 12288), .lit (.int .u16 1)]] [], .nil, .lit (.int .i64 2)])
def laid_strings_asciiSpace {H : Type} : DataW H := .agg [.lit (.int .u8 0), .lit (.int .u8 0), .lit (.int .u8 0), .lit (.int .u8 0), .lit (.int .u8 0), .lit (.int .u8 0), .lit (.int .u8 0), .lit (.int .u8 0), .lit (.int .u8 0), .lit (.int .u8 1), .lit (.int .u8 1), .lit (.int .u8 1), .lit (.int .u8 1), .lit (.int .u8 1), .lit (.int .u8 0), .lit (.int .u8 0), .lit (.int .u8 0), .lit (.int .u8 0), .lit (.int .u8 0), .lit (.int .u8 0), .lit (.int .u8 0), .lit (.int .u8 0), .lit (.int .u8 0), .lit (.int .u8 0), .lit (.int .u8 0), .lit (.int .u8 0), .lit (.int .u8 0), .lit (.int .u8 0), .lit (.int .u8 0), .lit (.int .u8 0), .lit (.int .u8 0), .lit (.int .u8 0), .lit (.int .u8 1), .lit (.int .u8 0), .lit (.int .u8 0), .lit (.int .u8 0), .lit (.int .u8 0), .lit (.int .u8 0), .lit (.int .u8 0), .lit (.int .u8 0), .lit (.int .u8 0), .lit (.int .u8 0), .lit (.int .u8 0), .lit (.int .u8 0), .lit (.int .u8 0), .lit (.int .u8 0), .lit (.int .u8 0), .lit (.int .u8 0), .lit (.int .u8 0), .lit (.int .u8 0), .lit (.int .u8 0), .lit (.int .u8 0), .lit (.int .u8 0), .lit (.int .u8 0), .lit (.int .u8 0), .lit (.int .u8 0), .lit (.int .u8 0), .lit (.int .u8 0), .lit (.int .u8 0), .lit (.int .u8 0), .lit (.int .u8 0), .lit (.int .u8 0), .lit (.int .u8 0), .lit (.int .u8 0), .lit (.int .u8 0), .lit (.int .u8 0), .lit (.int .u8 0), .lit (.int .u8 0), .lit (.int .u8 0), .lit (.int .u8 0), .lit (.int .u8 0), .lit (.int .u8 0), .lit (.int .u8 0), .lit (.int .u8 0), .lit (.int .u8 0), .lit (.int .u8 0), .lit (.int .u8 0), .lit (.int .u8 0), .lit (.int .u8 0), .lit (.int .u8 0), .lit (.int .u8 0), .lit (.int .u8 0), .lit (.int .u8 0), .lit (.int .u8 0), .lit (.int .u8 0), .lit (.int .u8 0), .lit (.int .u8 0), .lit (.int .u8 0), .lit (.int .u8 0), .lit (.int .u8 0), .lit (.int .u8 0), .lit (.int .u8 0), .lit (.int .u8 0), .lit (.int .u8 0), .lit (.int .u8 0), .lit (.int .u8 0), .lit (.int .u8 0), .lit (.int .u8 0), .lit (.int .u8 0), .lit (.int .u8 0), .lit (.int .u8 0), .lit (.int .u8 0), .lit (.int .u8 0), .lit (.int .u8 0), .lit (.int .u8 0), .lit (.int .u8 0), .lit (.int .u8 0), .lit (.int .u8 0), .lit (.int .u8 0), .lit (.int .u8 0), .lit (.int .u8 0), .lit (.int .u8 0), .lit (.int .u8 0), .lit (.int .u8 0), .lit (.int .u8 0), .lit (.int .u8 0), .lit (.int .u8 0), .lit (.int .u8 0), .lit (.int .u8 0), .lit (.int .u8 0), .lit (.int .u8 0), .lit (.int .u8 0), .lit (.int .u8 0), .lit (.int .u8 0), .lit (.int .u8 0), .lit (.int .u8 0), .lit (.int .u8 0), .lit (.int .u8 0), .lit (.int .u8 0), .lit (.int .u8 0), .lit (.int .u8 0), .lit (.int .u8 0), .lit (.int .u8 0), .lit (.int .u8 0), .lit (.int .u8 0), .lit (.int .u8 0), .lit (.int .u8 0), .lit (.int .u8 0), .lit (.int .u8 0), .lit (.int .u8 0), .lit (.int .u8 0), .lit (.int .u8 0), .lit (.int .u8 0), .lit (.int .u8 0), .lit (.int .u8 0), .lit (.int .u8 0), .lit (.int .u8 0), .lit (.int .u8 0), .lit (.int .u8 0), .lit (.int .u8 0), .lit (.int .u8 0), .lit (.int .u8 0), .lit (.int .u8 0), .lit (.int .u8 0), .lit (.int .u8 0), .lit (.int .u8 0), .lit (.int .u8 0), .lit (.int .u8 0), .lit (.int .u8 0), .lit (.int .u8 0), .lit (.int .u8 0), .lit (.int .u8 0), .lit (.int .u8 0), .lit (.int .u8 0), .lit (.int .u8 0), .lit (.int .u8 0), .lit (.int .u8 0), .lit (.int .u8 0), .lit (.int .u8 0), .lit (.int .u8 0), .lit (.int .u8 0), .lit (.int .u8 0), .lit (.int .u8 0), .lit (.int .u8 0), .lit (.int .u8 0), .lit (.int .u8 0), .lit (.int .u8 0), .lit (.int .u8 0), .lit (.int .u8 0), .lit (.int .u8 0), .lit (.int .u8 0), .lit (.int .u8 0), .lit (.int .u8 0), .lit (.int .u8 0), .lit (.int .u8 0), .lit (.int .u8 0), .lit (.int .u8 0), .lit (.int .u8 0), .lit (.int .u8 0), .lit (.int .u8 0), .lit (.int .u8 0), .lit (.int .u8 0), .lit (.int .u8 0), .lit (.int .u8 0), .lit (.int .u8 0), .lit (.int .u8 0), .lit (.int .u8 0), .lit (.int .u8 0), .lit (.int .u8 0), .lit (.int .u8 0), .lit (.int .u8 0), .lit (.int .u8 0), .lit (.int .u8 0), .lit (.int .u8 0), .lit (.int .u8 0), .lit (.int .u8 0), .lit (.int .u8 0), .lit (.int .u8 0), .lit (.int .u8 0), .lit (.int .u8 0), .lit (.int .u8 0), .lit (.int .u8 0), .lit (.int .u8 0), .lit (.int .u8 0), .lit (.int .u8 0), .lit (.int .u8 0), .lit (.int .u8 0), .lit (.int .u8 0), .lit (.int .u8 0), .lit (.int .u8 0), .lit (.int .u8 0), .lit (.int .u8 0), .lit (.int .u8 0), .lit (.int .u8 0), .lit (.int .u8 0), .lit (.int .u8 0), .lit (.int .u8 0), .lit (.int .u8 0), .lit (.int .u8 0), .lit (.int .u8 0), .lit (.int .u8 0), .lit (.int .u8 0), .lit (.int .u8 0), .lit (.int .u8 0), .lit (.int .u8 0), .lit (.int .u8 0), .lit (.int .u8 0), .lit (.int .u8 0), .lit (.int .u8 0), .lit (.int .u8 0), .lit (.int .u8 0), .lit (.int .u8 0), .lit (.int .u8 0), .lit (.int .u8 0), .lit (.int .u8 0), .lit (.int .u8 0), .lit (.int .u8 0), .lit (.int .u8 0), .lit (.int .u8 0), .lit (.int .u8 0), .lit (.int .u8 0), .lit (.int .u8 0), .lit (.int .u8 0), .lit (.int .u8 0), .lit (.int .u8 0), .lit (.int .u8 0)]

/-- 'pandectlaw06.UnitValidity': WHATEVER THE INPUT: true; the input reads as it did. -/
def unitValiditySpec : ChangeSpec := { name := "unitValidity", fn := fun _ => fun
  | [d1, d2, d3] => { results := [.lit (.bool true)], args := [d1, d2, d3] }
  | _ => none }
def unitValidityRow : OpenClaim := { program := "ytcacnelhppakoaadoor", sum := "243b6a96183151b48275ae2e0566ad52a9bfce3626447866240e0a781e1dd543", func := "pandect/pandectlaw06.UnitValidity", spec := "unitValidity", unfollowed := true, recurses := true, named := ["unicode/utf8.first", "unicode/utf8.acceptRanges", "pandect/unit.nesting", "pandect/unit.kindNames"], loops := true, plainKeys := false, apart := false, laid := [("unicode/utf8.acceptRanges", laid_unicode_utf8_acceptRanges), ("pandect/unit.kindNames", laid_pandect_unit_kindNames), ("pandect/unit.nesting", laid_pandect_unit_nesting), ("unicode/utf8.first", laid_unicode_utf8_first)] }
def UnitValiditySaid : Prop := unitValidityRow.holds Tryd.pinned (OpenSpec.ofChange unitValiditySpec)

/-- ITS FALSE NEIGHBOUR: 'it returns false'. Refute it at one input. -/
def unitValidityWrong : ChangeSpec := { name := "unitValidity", fn := fun _ => fun
  | [d1, d2, d3] => { results := [.lit (.bool false)], args := [d1, d2, d3] }
  | _ => none }
def UnitValidityWrongFalsely : Prop := unitValidityRow.holds Tryd.pinned (OpenSpec.ofChange unitValidityWrong)

/-- 'pandectlaw06.UnitLookup': WHATEVER THE INPUT: true; the input reads as it did. -/
def unitLookupSpec : ChangeSpec := { name := "unitLookup", fn := fun _ => fun
  | [d1, d2] => { results := [.lit (.bool true)], args := [d1, d2] }
  | _ => none }
def unitLookupRow : OpenClaim := { program := "ytcacnelhppakoaadoor", sum := "243b6a96183151b48275ae2e0566ad52a9bfce3626447866240e0a781e1dd543", func := "pandect/pandectlaw06.UnitLookup", spec := "unitLookup", unfollowed := true, recurses := true, named := ["unicode/utf8.first", "unicode/utf8.acceptRanges", "pandect/unit.nesting", "pandect/unit.kindNames"], loops := true, plainKeys := false, apart := false, laid := [("unicode/utf8.acceptRanges", laid_unicode_utf8_acceptRanges), ("pandect/unit.kindNames", laid_pandect_unit_kindNames), ("pandect/unit.nesting", laid_pandect_unit_nesting), ("unicode/utf8.first", laid_unicode_utf8_first)] }
def UnitLookupSaid : Prop := unitLookupRow.holds Tryd.pinned (OpenSpec.ofChange unitLookupSpec)

/-- ITS FALSE NEIGHBOUR: 'it returns false'. Refute it at one input. -/
def unitLookupWrong : ChangeSpec := { name := "unitLookup", fn := fun _ => fun
  | [d1, d2] => { results := [.lit (.bool false)], args := [d1, d2] }
  | _ => none }
def UnitLookupWrongFalsely : Prop := unitLookupRow.holds Tryd.pinned (OpenSpec.ofChange unitLookupWrong)

/-- 'pandectlaw06.UnitEquality': WHATEVER THE INPUT: true; the input reads as it did. -/
def unitEqualitySpec : ChangeSpec := { name := "unitEquality", fn := fun _ => fun
  | [d1, d2] => { results := [.lit (.bool true)], args := [d1, d2] }
  | _ => none }
def unitEqualityRow : OpenClaim := { program := "ytcacnelhppakoaadoor", sum := "243b6a96183151b48275ae2e0566ad52a9bfce3626447866240e0a781e1dd543", func := "pandect/pandectlaw06.UnitEquality", spec := "unitEquality", unfollowed := true, recurses := true, named := ["unicode/utf8.first", "unicode/utf8.acceptRanges", "pandect/unit.nesting", "pandect/unit.kindNames"], loops := true, plainKeys := false, apart := false, laid := [("unicode/utf8.acceptRanges", laid_unicode_utf8_acceptRanges), ("pandect/unit.kindNames", laid_pandect_unit_kindNames), ("pandect/unit.nesting", laid_pandect_unit_nesting), ("unicode/utf8.first", laid_unicode_utf8_first)] }
def UnitEqualitySaid : Prop := unitEqualityRow.holds Tryd.pinned (OpenSpec.ofChange unitEqualitySpec)

/-- ITS FALSE NEIGHBOUR: 'it returns false'. Refute it at one input. -/
def unitEqualityWrong : ChangeSpec := { name := "unitEquality", fn := fun _ => fun
  | [d1, d2] => { results := [.lit (.bool false)], args := [d1, d2] }
  | _ => none }
def UnitEqualityWrongFalsely : Prop := unitEqualityRow.holds Tryd.pinned (OpenSpec.ofChange unitEqualityWrong)

/-- 'pandectlaw06.UnitPaths': WHATEVER THE INPUT: true; the input reads as it did. -/
def unitPathsSpec : ChangeSpec := { name := "unitPaths", fn := fun _ => fun
  | [d1, d2] => { results := [.lit (.bool true)], args := [d1, d2] }
  | _ => none }
def unitPathsRow : OpenClaim := { program := "ytcacnelhppakoaadoor", sum := "243b6a96183151b48275ae2e0566ad52a9bfce3626447866240e0a781e1dd543", func := "pandect/pandectlaw06.UnitPaths", spec := "unitPaths", unfollowed := true, recurses := true, named := ["unicode/utf8.first", "unicode/utf8.acceptRanges", "pandect/unit.nesting", "pandect/unit.kindNames"], loops := true, plainKeys := false, apart := false, laid := [("unicode/utf8.acceptRanges", laid_unicode_utf8_acceptRanges), ("pandect/unit.kindNames", laid_pandect_unit_kindNames), ("pandect/unit.nesting", laid_pandect_unit_nesting), ("unicode/utf8.first", laid_unicode_utf8_first)] }
def UnitPathsSaid : Prop := unitPathsRow.holds Tryd.pinned (OpenSpec.ofChange unitPathsSpec)

/-- ITS FALSE NEIGHBOUR: 'it returns false'. Refute it at one input. -/
def unitPathsWrong : ChangeSpec := { name := "unitPaths", fn := fun _ => fun
  | [d1, d2] => { results := [.lit (.bool false)], args := [d1, d2] }
  | _ => none }
def UnitPathsWrongFalsely : Prop := unitPathsRow.holds Tryd.pinned (OpenSpec.ofChange unitPathsWrong)

/-- 'pandectlaw06.UnitCorruption': WHATEVER THE INPUT: true; the input reads as it did. -/
def unitCorruptionSpec : ChangeSpec := { name := "unitCorruption", fn := fun _ => fun
  | [d1, d2, d3] => { results := [.lit (.bool true)], args := [d1, d2, d3] }
  | _ => none }
def unitCorruptionRow : OpenClaim := { program := "ytcacnelhppakoaadoor", sum := "243b6a96183151b48275ae2e0566ad52a9bfce3626447866240e0a781e1dd543", func := "pandect/pandectlaw06.UnitCorruption", spec := "unitCorruption", unfollowed := true, recurses := true, named := ["unicode/utf8.first", "unicode/utf8.acceptRanges", "pandect/unit.nesting", "pandect/unit.kindNames"], loops := true, plainKeys := false, apart := false, laid := [("unicode/utf8.acceptRanges", laid_unicode_utf8_acceptRanges), ("pandect/unit.kindNames", laid_pandect_unit_kindNames), ("pandect/unit.nesting", laid_pandect_unit_nesting), ("unicode/utf8.first", laid_unicode_utf8_first)] }
def UnitCorruptionSaid : Prop := unitCorruptionRow.holds Tryd.pinned (OpenSpec.ofChange unitCorruptionSpec)

/-- ITS FALSE NEIGHBOUR: 'it returns false'. Refute it at one input. -/
def unitCorruptionWrong : ChangeSpec := { name := "unitCorruption", fn := fun _ => fun
  | [d1, d2, d3] => { results := [.lit (.bool false)], args := [d1, d2, d3] }
  | _ => none }
def UnitCorruptionWrongFalsely : Prop := unitCorruptionRow.holds Tryd.pinned (OpenSpec.ofChange unitCorruptionWrong)

/-- 'pandectlaw06.UnitLimits': WHATEVER THE INPUT: true; the input reads as it did. -/
def unitLimitsSpec : ChangeSpec := { name := "unitLimits", fn := fun _ => fun
  | [d1, d2, d3] => { results := [.lit (.bool true)], args := [d1, d2, d3] }
  | _ => none }
def unitLimitsRow : OpenClaim := { program := "ytcacnelhppakoaadoor", sum := "243b6a96183151b48275ae2e0566ad52a9bfce3626447866240e0a781e1dd543", func := "pandect/pandectlaw06.UnitLimits", spec := "unitLimits", unfollowed := true, recurses := true, named := ["unicode/utf8.first", "unicode/utf8.acceptRanges", "pandect/unit.nesting", "pandect/unit.kindNames"], plainKeys := false, apart := false, laid := [("unicode/utf8.acceptRanges", laid_unicode_utf8_acceptRanges), ("pandect/unit.kindNames", laid_pandect_unit_kindNames), ("pandect/unit.nesting", laid_pandect_unit_nesting), ("unicode/utf8.first", laid_unicode_utf8_first)] }
def UnitLimitsSaid : Prop := unitLimitsRow.holds Tryd.pinned (OpenSpec.ofChange unitLimitsSpec)

/-- ITS FALSE NEIGHBOUR: 'it returns false'. Refute it at one input. -/
def unitLimitsWrong : ChangeSpec := { name := "unitLimits", fn := fun _ => fun
  | [d1, d2, d3] => { results := [.lit (.bool false)], args := [d1, d2, d3] }
  | _ => none }
def UnitLimitsWrongFalsely : Prop := unitLimitsRow.holds Tryd.pinned (OpenSpec.ofChange unitLimitsWrong)

/-- 'pandectlaw07.AddressFormat': WHATEVER THE INPUT: true; the input reads as it did. -/
def addressFormatSpec : ChangeSpec := { name := "addressFormat", fn := fun _ => fun
  | [d] => { results := [.lit (.bool true)], args := [d] }
  | _ => none }
def addressFormatRow : OpenClaim := { program := "ytcacnelhppakoaadoor", sum := "243b6a96183151b48275ae2e0566ad52a9bfce3626447866240e0a781e1dd543", func := "pandect/pandectlaw07.AddressFormat", spec := "addressFormat", inPlace := ["internal/abi.NoEscape", "internal/bytealg.MakeNoZero"], unfollowed := true, recurses := true, named := ["unicode/utf8.first", "unicode/utf8.acceptRanges", "pandect/unit.kindNames", "strings.asciiSpace", "unicode.White_Space"], plainKeys := false, apart := false, laid := [("unicode/utf8.acceptRanges", laid_unicode_utf8_acceptRanges), ("unicode.White_Space", laid_unicode_White_Space), ("strings.asciiSpace", laid_strings_asciiSpace), ("pandect/unit.kindNames", laid_pandect_unit_kindNames), ("unicode/utf8.first", laid_unicode_utf8_first)] }
def AddressFormatSaid : Prop := addressFormatRow.holds Tryd.pinned (OpenSpec.ofChange addressFormatSpec)

/-- ITS FALSE NEIGHBOUR: 'it returns false'. Refute it at one input. -/
def addressFormatWrong : ChangeSpec := { name := "addressFormat", fn := fun _ => fun
  | [d] => { results := [.lit (.bool false)], args := [d] }
  | _ => none }
def AddressFormatWrongFalsely : Prop := addressFormatRow.holds Tryd.pinned (OpenSpec.ofChange addressFormatWrong)

/-- 'pandectlaw07.AddressParse': WHATEVER THE INPUT: true; the input reads as it did. -/
def addressParseSpec : ChangeSpec := { name := "addressParse", fn := fun _ => fun
  | [d] => { results := [.lit (.bool true)], args := [d] }
  | _ => none }
def addressParseRow : OpenClaim := { program := "ytcacnelhppakoaadoor", sum := "243b6a96183151b48275ae2e0566ad52a9bfce3626447866240e0a781e1dd543", func := "pandect/pandectlaw07.AddressParse", spec := "addressParse", inPlace := ["internal/abi.NoEscape", "internal/bytealg.MakeNoZero"], unfollowed := true, recurses := true, named := ["unicode/utf8.first", "unicode/utf8.acceptRanges", "pandect/unit.kindNames", "strings.asciiSpace", "unicode.White_Space"], plainKeys := false, apart := false, laid := [("unicode/utf8.acceptRanges", laid_unicode_utf8_acceptRanges), ("unicode.White_Space", laid_unicode_White_Space), ("strings.asciiSpace", laid_strings_asciiSpace), ("pandect/unit.kindNames", laid_pandect_unit_kindNames), ("unicode/utf8.first", laid_unicode_utf8_first)] }
def AddressParseSaid : Prop := addressParseRow.holds Tryd.pinned (OpenSpec.ofChange addressParseSpec)

/-- ITS FALSE NEIGHBOUR: 'it returns false'. Refute it at one input. -/
def addressParseWrong : ChangeSpec := { name := "addressParse", fn := fun _ => fun
  | [d] => { results := [.lit (.bool false)], args := [d] }
  | _ => none }
def AddressParseWrongFalsely : Prop := addressParseRow.holds Tryd.pinned (OpenSpec.ofChange addressParseWrong)

/-- 'pandectlaw07.AddressFind': WHATEVER THE INPUT: true; the input reads as it did. -/
def addressFindSpec : ChangeSpec := { name := "addressFind", fn := fun _ => fun
  | [d1, d2] => { results := [.lit (.bool true)], args := [d1, d2] }
  | _ => none }
def addressFindRow : OpenClaim := { program := "ytcacnelhppakoaadoor", sum := "243b6a96183151b48275ae2e0566ad52a9bfce3626447866240e0a781e1dd543", func := "pandect/pandectlaw07.AddressFind", spec := "addressFind", inPlace := ["internal/abi.NoEscape", "internal/bytealg.MakeNoZero"], unfollowed := true, recurses := true, named := ["unicode/utf8.first", "unicode/utf8.acceptRanges", "pandect/unit.kindNames"], loops := true, plainKeys := false, apart := false, laid := [("unicode/utf8.acceptRanges", laid_unicode_utf8_acceptRanges), ("pandect/unit.kindNames", laid_pandect_unit_kindNames), ("unicode/utf8.first", laid_unicode_utf8_first)] }
def AddressFindSaid : Prop := addressFindRow.holds Tryd.pinned (OpenSpec.ofChange addressFindSpec)

/-- ITS FALSE NEIGHBOUR: 'it returns false'. Refute it at one input. -/
def addressFindWrong : ChangeSpec := { name := "addressFind", fn := fun _ => fun
  | [d1, d2] => { results := [.lit (.bool false)], args := [d1, d2] }
  | _ => none }
def AddressFindWrongFalsely : Prop := addressFindRow.holds Tryd.pinned (OpenSpec.ofChange addressFindWrong)

/-- 'pandectlaw07.AddressUnique': WHATEVER THE INPUT: true; the input reads as it did. -/
def addressUniqueSpec : ChangeSpec := { name := "addressUnique", fn := fun _ => fun
  | [d] => { results := [.lit (.bool true)], args := [d] }
  | _ => none }
def addressUniqueRow : OpenClaim := { program := "ytcacnelhppakoaadoor", sum := "243b6a96183151b48275ae2e0566ad52a9bfce3626447866240e0a781e1dd543", func := "pandect/pandectlaw07.AddressUnique", spec := "addressUnique", inPlace := ["internal/abi.NoEscape", "internal/bytealg.MakeNoZero"], unfollowed := true, recurses := true, named := ["unicode/utf8.first", "unicode/utf8.acceptRanges", "pandect/unit.kindNames", "pandect/unit.nesting"], loops := true, plainKeys := false, apart := false, laid := [("unicode/utf8.acceptRanges", laid_unicode_utf8_acceptRanges), ("pandect/unit.kindNames", laid_pandect_unit_kindNames), ("pandect/unit.nesting", laid_pandect_unit_nesting), ("unicode/utf8.first", laid_unicode_utf8_first)] }
def AddressUniqueSaid : Prop := addressUniqueRow.holds Tryd.pinned (OpenSpec.ofChange addressUniqueSpec)

/-- ITS FALSE NEIGHBOUR: 'it returns false'. Refute it at one input. -/
def addressUniqueWrong : ChangeSpec := { name := "addressUnique", fn := fun _ => fun
  | [d] => { results := [.lit (.bool false)], args := [d] }
  | _ => none }
def AddressUniqueWrongFalsely : Prop := addressUniqueRow.holds Tryd.pinned (OpenSpec.ofChange addressUniqueWrong)

/-- 'pandectlaw07.AddressExtend': WHATEVER THE INPUT: true; the input reads as it did. -/
def addressExtendSpec : ChangeSpec := { name := "addressExtend", fn := fun _ => fun
  | [d1, d2, d3] => { results := [.lit (.bool true)], args := [d1, d2, d3] }
  | _ => none }
def addressExtendRow : OpenClaim := { program := "ytcacnelhppakoaadoor", sum := "243b6a96183151b48275ae2e0566ad52a9bfce3626447866240e0a781e1dd543", func := "pandect/pandectlaw07.AddressExtend", spec := "addressExtend", inPlace := ["internal/abi.NoEscape", "internal/bytealg.MakeNoZero"], unfollowed := true, recurses := true, named := ["unicode/utf8.first", "unicode/utf8.acceptRanges", "pandect/unit.kindNames", "pandect/unit.nesting"], loops := true, plainKeys := false, apart := false, laid := [("unicode/utf8.acceptRanges", laid_unicode_utf8_acceptRanges), ("pandect/unit.kindNames", laid_pandect_unit_kindNames), ("pandect/unit.nesting", laid_pandect_unit_nesting), ("unicode/utf8.first", laid_unicode_utf8_first)] }
def AddressExtendSaid : Prop := addressExtendRow.holds Tryd.pinned (OpenSpec.ofChange addressExtendSpec)

/-- ITS FALSE NEIGHBOUR: 'it returns false'. Refute it at one input. -/
def addressExtendWrong : ChangeSpec := { name := "addressExtend", fn := fun _ => fun
  | [d1, d2, d3] => { results := [.lit (.bool false)], args := [d1, d2, d3] }
  | _ => none }
def AddressExtendWrongFalsely : Prop := addressExtendRow.holds Tryd.pinned (OpenSpec.ofChange addressExtendWrong)

/-- 'pandectlaw08.TreeeditRemoves': WHATEVER THE INPUT: true; the input reads as it did. -/
def treeeditRemovesSpec : ChangeSpec := { name := "treeeditRemoves", fn := fun _ => fun
  | [d1, d2] => { results := [.lit (.bool true)], args := [d1, d2] }
  | _ => none }
def treeeditRemovesRow : OpenClaim := { program := "ytcacnelhppakoaadoor", sum := "243b6a96183151b48275ae2e0566ad52a9bfce3626447866240e0a781e1dd543", func := "pandect/pandectlaw08.TreeeditRemoves", spec := "treeeditRemoves", unfollowed := true, recurses := true, named := ["unicode/utf8.first", "unicode/utf8.acceptRanges", "pandect/unit.nesting"], loops := true, plainKeys := false, apart := false, laid := [("unicode/utf8.acceptRanges", laid_unicode_utf8_acceptRanges), ("pandect/unit.nesting", laid_pandect_unit_nesting), ("unicode/utf8.first", laid_unicode_utf8_first)] }
def TreeeditRemovesSaid : Prop := treeeditRemovesRow.holds Tryd.pinned (OpenSpec.ofChange treeeditRemovesSpec)

/-- ITS FALSE NEIGHBOUR: 'it returns false'. Refute it at one input. -/
def treeeditRemovesWrong : ChangeSpec := { name := "treeeditRemoves", fn := fun _ => fun
  | [d1, d2] => { results := [.lit (.bool false)], args := [d1, d2] }
  | _ => none }
def TreeeditRemovesWrongFalsely : Prop := treeeditRemovesRow.holds Tryd.pinned (OpenSpec.ofChange treeeditRemovesWrong)

/-- 'pandectlaw08.TreeeditRemoveInverse': WHATEVER THE INPUT: true; the input reads as it did. -/
def treeeditRemoveInverseSpec : ChangeSpec := { name := "treeeditRemoveInverse", fn := fun _ => fun
  | [d1, d2, d3, d4, d5] => { results := [.lit (.bool true)], args := [d1, d2, d3, d4, d5] }
  | _ => none }
def treeeditRemoveInverseRow : OpenClaim := { program := "ytcacnelhppakoaadoor", sum := "243b6a96183151b48275ae2e0566ad52a9bfce3626447866240e0a781e1dd543", func := "pandect/pandectlaw08.TreeeditRemoveInverse", spec := "treeeditRemoveInverse", unfollowed := true, recurses := true, named := ["unicode/utf8.first", "unicode/utf8.acceptRanges", "pandect/unit.nesting"], loops := true, plainKeys := false, apart := false, laid := [("unicode/utf8.acceptRanges", laid_unicode_utf8_acceptRanges), ("pandect/unit.nesting", laid_pandect_unit_nesting), ("unicode/utf8.first", laid_unicode_utf8_first)] }
def TreeeditRemoveInverseSaid : Prop := treeeditRemoveInverseRow.holds Tryd.pinned (OpenSpec.ofChange treeeditRemoveInverseSpec)

/-- ITS FALSE NEIGHBOUR: 'it returns false'. Refute it at one input. -/
def treeeditRemoveInverseWrong : ChangeSpec := { name := "treeeditRemoveInverse", fn := fun _ => fun
  | [d1, d2, d3, d4, d5] => { results := [.lit (.bool false)], args := [d1, d2, d3, d4, d5] }
  | _ => none }
def TreeeditRemoveInverseWrongFalsely : Prop := treeeditRemoveInverseRow.holds Tryd.pinned (OpenSpec.ofChange treeeditRemoveInverseWrong)

/-- 'pandectlaw08.TreeeditMoveInverse': WHATEVER THE INPUT: true; the input reads as it did. -/
def treeeditMoveInverseSpec : ChangeSpec := { name := "treeeditMoveInverse", fn := fun _ => fun
  | [d1, d2, d3, d4] => { results := [.lit (.bool true)], args := [d1, d2, d3, d4] }
  | _ => none }
def treeeditMoveInverseRow : OpenClaim := { program := "ytcacnelhppakoaadoor", sum := "243b6a96183151b48275ae2e0566ad52a9bfce3626447866240e0a781e1dd543", func := "pandect/pandectlaw08.TreeeditMoveInverse", spec := "treeeditMoveInverse", unfollowed := true, recurses := true, named := ["unicode/utf8.first", "unicode/utf8.acceptRanges", "pandect/unit.nesting"], loops := true, plainKeys := false, apart := false, laid := [("unicode/utf8.acceptRanges", laid_unicode_utf8_acceptRanges), ("pandect/unit.nesting", laid_pandect_unit_nesting), ("unicode/utf8.first", laid_unicode_utf8_first)] }
def TreeeditMoveInverseSaid : Prop := treeeditMoveInverseRow.holds Tryd.pinned (OpenSpec.ofChange treeeditMoveInverseSpec)

/-- ITS FALSE NEIGHBOUR: 'it returns false'. Refute it at one input. -/
def treeeditMoveInverseWrong : ChangeSpec := { name := "treeeditMoveInverse", fn := fun _ => fun
  | [d1, d2, d3, d4] => { results := [.lit (.bool false)], args := [d1, d2, d3, d4] }
  | _ => none }
def TreeeditMoveInverseWrongFalsely : Prop := treeeditMoveInverseRow.holds Tryd.pinned (OpenSpec.ofChange treeeditMoveInverseWrong)

/- THE SECOND FORM. 'bulk': how many values and letters a reading holds, each counted each time it is reached (what is shared counts as often as it is met; a slice's spare places count too). A statement '..UptoSaid' is the law's where the arguments, and the package variables that the reading takes, are together of bulk at most 1048576: NARROWER than '..Said'. Prove '..Said' where nothing that the law and all that it calls make is longer than what came in: it says more and counts as full. Else prove '..UptoSaid'. A law counts once. -/
mutual
def uptoBulk {H : Type} : DataW H → Nat
  | .lit (.string bytes) => bytes.length + 1
  | .lit _ => 1
  | .nil => 1
  | .ptr d => uptoBulk d + 1
  | .slice elems spare => uptoBulkAll elems + uptoBulkAll spare + 1
  | .agg parts => uptoBulkAll parts + 1
  | .iface _ d => uptoBulk d + 1
  | .map entries => uptoBulkEntries entries + 1
  | .held _ => 1
def uptoBulkAll {H : Type} : List (DataW H) → Nat
  | [] => 0
  | d :: r => uptoBulk d + uptoBulkAll r
def uptoBulkEntries {H : Type} : List (Lit × DataW H) → Nat
  | [] => 0
  | x :: r => uptoBulkEntry x + uptoBulkEntries r
def uptoBulkEntry {H : Type} : Lit × DataW H → Nat
  | (.string bytes, d) => bytes.length + uptoBulk d + 1
  | (_, d) => uptoBulk d + 1
 end
def uptoSmall : (H : Type) → List (DataW H) → Bool := fun _ ds => decide (uptoBulkAll ds ≤ 1048576)
def OpenSpec.upto (s : _root_.Go.ChangeSpec) : _root_.Go.OpenSpec := { _root_.Go.OpenSpec.ofChange s with cond := some uptoSmall }

/-- 'pandectlaw06.UnitValidity', WHERE WHAT IT READS IS OF BULK AT MOST 1048576: true; the input reads as it did. -/
def unitValidityUptoRow : OpenClaim := { program := "ytcacnelhppakoaadoor", sum := "243b6a96183151b48275ae2e0566ad52a9bfce3626447866240e0a781e1dd543", func := "pandect/pandectlaw06.UnitValidity", spec := "unitValidity", unfollowed := true, recurses := true, named := ["unicode/utf8.first", "unicode/utf8.acceptRanges", "pandect/unit.nesting", "pandect/unit.kindNames"], loops := true, plainKeys := false, apart := false, laid := [("unicode/utf8.acceptRanges", laid_unicode_utf8_acceptRanges), ("pandect/unit.kindNames", laid_pandect_unit_kindNames), ("pandect/unit.nesting", laid_pandect_unit_nesting), ("unicode/utf8.first", laid_unicode_utf8_first)], narrowed := true }
def UnitValidityUptoSaid : Prop := unitValidityUptoRow.holds Tryd.pinned (OpenSpec.upto unitValiditySpec)

/-- 'pandectlaw06.UnitLookup', WHERE WHAT IT READS IS OF BULK AT MOST 1048576: true; the input reads as it did. -/
def unitLookupUptoRow : OpenClaim := { program := "ytcacnelhppakoaadoor", sum := "243b6a96183151b48275ae2e0566ad52a9bfce3626447866240e0a781e1dd543", func := "pandect/pandectlaw06.UnitLookup", spec := "unitLookup", unfollowed := true, recurses := true, named := ["unicode/utf8.first", "unicode/utf8.acceptRanges", "pandect/unit.nesting", "pandect/unit.kindNames"], loops := true, plainKeys := false, apart := false, laid := [("unicode/utf8.acceptRanges", laid_unicode_utf8_acceptRanges), ("pandect/unit.kindNames", laid_pandect_unit_kindNames), ("pandect/unit.nesting", laid_pandect_unit_nesting), ("unicode/utf8.first", laid_unicode_utf8_first)], narrowed := true }
def UnitLookupUptoSaid : Prop := unitLookupUptoRow.holds Tryd.pinned (OpenSpec.upto unitLookupSpec)

/-- 'pandectlaw06.UnitEquality', WHERE WHAT IT READS IS OF BULK AT MOST 1048576: true; the input reads as it did. -/
def unitEqualityUptoRow : OpenClaim := { program := "ytcacnelhppakoaadoor", sum := "243b6a96183151b48275ae2e0566ad52a9bfce3626447866240e0a781e1dd543", func := "pandect/pandectlaw06.UnitEquality", spec := "unitEquality", unfollowed := true, recurses := true, named := ["unicode/utf8.first", "unicode/utf8.acceptRanges", "pandect/unit.nesting", "pandect/unit.kindNames"], loops := true, plainKeys := false, apart := false, laid := [("unicode/utf8.acceptRanges", laid_unicode_utf8_acceptRanges), ("pandect/unit.kindNames", laid_pandect_unit_kindNames), ("pandect/unit.nesting", laid_pandect_unit_nesting), ("unicode/utf8.first", laid_unicode_utf8_first)], narrowed := true }
def UnitEqualityUptoSaid : Prop := unitEqualityUptoRow.holds Tryd.pinned (OpenSpec.upto unitEqualitySpec)

/-- 'pandectlaw06.UnitPaths', WHERE WHAT IT READS IS OF BULK AT MOST 1048576: true; the input reads as it did. -/
def unitPathsUptoRow : OpenClaim := { program := "ytcacnelhppakoaadoor", sum := "243b6a96183151b48275ae2e0566ad52a9bfce3626447866240e0a781e1dd543", func := "pandect/pandectlaw06.UnitPaths", spec := "unitPaths", unfollowed := true, recurses := true, named := ["unicode/utf8.first", "unicode/utf8.acceptRanges", "pandect/unit.nesting", "pandect/unit.kindNames"], loops := true, plainKeys := false, apart := false, laid := [("unicode/utf8.acceptRanges", laid_unicode_utf8_acceptRanges), ("pandect/unit.kindNames", laid_pandect_unit_kindNames), ("pandect/unit.nesting", laid_pandect_unit_nesting), ("unicode/utf8.first", laid_unicode_utf8_first)], narrowed := true }
def UnitPathsUptoSaid : Prop := unitPathsUptoRow.holds Tryd.pinned (OpenSpec.upto unitPathsSpec)

/-- 'pandectlaw06.UnitCorruption', WHERE WHAT IT READS IS OF BULK AT MOST 1048576: true; the input reads as it did. -/
def unitCorruptionUptoRow : OpenClaim := { program := "ytcacnelhppakoaadoor", sum := "243b6a96183151b48275ae2e0566ad52a9bfce3626447866240e0a781e1dd543", func := "pandect/pandectlaw06.UnitCorruption", spec := "unitCorruption", unfollowed := true, recurses := true, named := ["unicode/utf8.first", "unicode/utf8.acceptRanges", "pandect/unit.nesting", "pandect/unit.kindNames"], loops := true, plainKeys := false, apart := false, laid := [("unicode/utf8.acceptRanges", laid_unicode_utf8_acceptRanges), ("pandect/unit.kindNames", laid_pandect_unit_kindNames), ("pandect/unit.nesting", laid_pandect_unit_nesting), ("unicode/utf8.first", laid_unicode_utf8_first)], narrowed := true }
def UnitCorruptionUptoSaid : Prop := unitCorruptionUptoRow.holds Tryd.pinned (OpenSpec.upto unitCorruptionSpec)

/-- 'pandectlaw06.UnitLimits', WHERE WHAT IT READS IS OF BULK AT MOST 1048576: true; the input reads as it did. -/
def unitLimitsUptoRow : OpenClaim := { program := "ytcacnelhppakoaadoor", sum := "243b6a96183151b48275ae2e0566ad52a9bfce3626447866240e0a781e1dd543", func := "pandect/pandectlaw06.UnitLimits", spec := "unitLimits", unfollowed := true, recurses := true, named := ["unicode/utf8.first", "unicode/utf8.acceptRanges", "pandect/unit.nesting", "pandect/unit.kindNames"], plainKeys := false, apart := false, laid := [("unicode/utf8.acceptRanges", laid_unicode_utf8_acceptRanges), ("pandect/unit.kindNames", laid_pandect_unit_kindNames), ("pandect/unit.nesting", laid_pandect_unit_nesting), ("unicode/utf8.first", laid_unicode_utf8_first)], narrowed := true }
def UnitLimitsUptoSaid : Prop := unitLimitsUptoRow.holds Tryd.pinned (OpenSpec.upto unitLimitsSpec)

/-- 'pandectlaw07.AddressFormat', WHERE WHAT IT READS IS OF BULK AT MOST 1048576: true; the input reads as it did. -/
def addressFormatUptoRow : OpenClaim := { program := "ytcacnelhppakoaadoor", sum := "243b6a96183151b48275ae2e0566ad52a9bfce3626447866240e0a781e1dd543", func := "pandect/pandectlaw07.AddressFormat", spec := "addressFormat", inPlace := ["internal/abi.NoEscape", "internal/bytealg.MakeNoZero"], unfollowed := true, recurses := true, named := ["unicode/utf8.first", "unicode/utf8.acceptRanges", "pandect/unit.kindNames", "strings.asciiSpace", "unicode.White_Space"], plainKeys := false, apart := false, laid := [("unicode/utf8.acceptRanges", laid_unicode_utf8_acceptRanges), ("unicode.White_Space", laid_unicode_White_Space), ("strings.asciiSpace", laid_strings_asciiSpace), ("pandect/unit.kindNames", laid_pandect_unit_kindNames), ("unicode/utf8.first", laid_unicode_utf8_first)], narrowed := true }
def AddressFormatUptoSaid : Prop := addressFormatUptoRow.holds Tryd.pinned (OpenSpec.upto addressFormatSpec)

/-- 'pandectlaw07.AddressParse', WHERE WHAT IT READS IS OF BULK AT MOST 1048576: true; the input reads as it did. -/
def addressParseUptoRow : OpenClaim := { program := "ytcacnelhppakoaadoor", sum := "243b6a96183151b48275ae2e0566ad52a9bfce3626447866240e0a781e1dd543", func := "pandect/pandectlaw07.AddressParse", spec := "addressParse", inPlace := ["internal/abi.NoEscape", "internal/bytealg.MakeNoZero"], unfollowed := true, recurses := true, named := ["unicode/utf8.first", "unicode/utf8.acceptRanges", "pandect/unit.kindNames", "strings.asciiSpace", "unicode.White_Space"], plainKeys := false, apart := false, laid := [("unicode/utf8.acceptRanges", laid_unicode_utf8_acceptRanges), ("unicode.White_Space", laid_unicode_White_Space), ("strings.asciiSpace", laid_strings_asciiSpace), ("pandect/unit.kindNames", laid_pandect_unit_kindNames), ("unicode/utf8.first", laid_unicode_utf8_first)], narrowed := true }
def AddressParseUptoSaid : Prop := addressParseUptoRow.holds Tryd.pinned (OpenSpec.upto addressParseSpec)

/-- 'pandectlaw07.AddressFind', WHERE WHAT IT READS IS OF BULK AT MOST 1048576: true; the input reads as it did. -/
def addressFindUptoRow : OpenClaim := { program := "ytcacnelhppakoaadoor", sum := "243b6a96183151b48275ae2e0566ad52a9bfce3626447866240e0a781e1dd543", func := "pandect/pandectlaw07.AddressFind", spec := "addressFind", inPlace := ["internal/abi.NoEscape", "internal/bytealg.MakeNoZero"], unfollowed := true, recurses := true, named := ["unicode/utf8.first", "unicode/utf8.acceptRanges", "pandect/unit.kindNames"], loops := true, plainKeys := false, apart := false, laid := [("unicode/utf8.acceptRanges", laid_unicode_utf8_acceptRanges), ("pandect/unit.kindNames", laid_pandect_unit_kindNames), ("unicode/utf8.first", laid_unicode_utf8_first)], narrowed := true }
def AddressFindUptoSaid : Prop := addressFindUptoRow.holds Tryd.pinned (OpenSpec.upto addressFindSpec)

/-- 'pandectlaw07.AddressUnique', WHERE WHAT IT READS IS OF BULK AT MOST 1048576: true; the input reads as it did. -/
def addressUniqueUptoRow : OpenClaim := { program := "ytcacnelhppakoaadoor", sum := "243b6a96183151b48275ae2e0566ad52a9bfce3626447866240e0a781e1dd543", func := "pandect/pandectlaw07.AddressUnique", spec := "addressUnique", inPlace := ["internal/abi.NoEscape", "internal/bytealg.MakeNoZero"], unfollowed := true, recurses := true, named := ["unicode/utf8.first", "unicode/utf8.acceptRanges", "pandect/unit.kindNames", "pandect/unit.nesting"], loops := true, plainKeys := false, apart := false, laid := [("unicode/utf8.acceptRanges", laid_unicode_utf8_acceptRanges), ("pandect/unit.kindNames", laid_pandect_unit_kindNames), ("pandect/unit.nesting", laid_pandect_unit_nesting), ("unicode/utf8.first", laid_unicode_utf8_first)], narrowed := true }
def AddressUniqueUptoSaid : Prop := addressUniqueUptoRow.holds Tryd.pinned (OpenSpec.upto addressUniqueSpec)

/-- 'pandectlaw07.AddressExtend', WHERE WHAT IT READS IS OF BULK AT MOST 1048576: true; the input reads as it did. -/
def addressExtendUptoRow : OpenClaim := { program := "ytcacnelhppakoaadoor", sum := "243b6a96183151b48275ae2e0566ad52a9bfce3626447866240e0a781e1dd543", func := "pandect/pandectlaw07.AddressExtend", spec := "addressExtend", inPlace := ["internal/abi.NoEscape", "internal/bytealg.MakeNoZero"], unfollowed := true, recurses := true, named := ["unicode/utf8.first", "unicode/utf8.acceptRanges", "pandect/unit.kindNames", "pandect/unit.nesting"], loops := true, plainKeys := false, apart := false, laid := [("unicode/utf8.acceptRanges", laid_unicode_utf8_acceptRanges), ("pandect/unit.kindNames", laid_pandect_unit_kindNames), ("pandect/unit.nesting", laid_pandect_unit_nesting), ("unicode/utf8.first", laid_unicode_utf8_first)], narrowed := true }
def AddressExtendUptoSaid : Prop := addressExtendUptoRow.holds Tryd.pinned (OpenSpec.upto addressExtendSpec)

/-- 'pandectlaw08.TreeeditRemoves', WHERE WHAT IT READS IS OF BULK AT MOST 1048576: true; the input reads as it did. -/
def treeeditRemovesUptoRow : OpenClaim := { program := "ytcacnelhppakoaadoor", sum := "243b6a96183151b48275ae2e0566ad52a9bfce3626447866240e0a781e1dd543", func := "pandect/pandectlaw08.TreeeditRemoves", spec := "treeeditRemoves", unfollowed := true, recurses := true, named := ["unicode/utf8.first", "unicode/utf8.acceptRanges", "pandect/unit.nesting"], loops := true, plainKeys := false, apart := false, laid := [("unicode/utf8.acceptRanges", laid_unicode_utf8_acceptRanges), ("pandect/unit.nesting", laid_pandect_unit_nesting), ("unicode/utf8.first", laid_unicode_utf8_first)], narrowed := true }
def TreeeditRemovesUptoSaid : Prop := treeeditRemovesUptoRow.holds Tryd.pinned (OpenSpec.upto treeeditRemovesSpec)

/-- 'pandectlaw08.TreeeditRemoveInverse', WHERE WHAT IT READS IS OF BULK AT MOST 1048576: true; the input reads as it did. -/
def treeeditRemoveInverseUptoRow : OpenClaim := { program := "ytcacnelhppakoaadoor", sum := "243b6a96183151b48275ae2e0566ad52a9bfce3626447866240e0a781e1dd543", func := "pandect/pandectlaw08.TreeeditRemoveInverse", spec := "treeeditRemoveInverse", unfollowed := true, recurses := true, named := ["unicode/utf8.first", "unicode/utf8.acceptRanges", "pandect/unit.nesting"], loops := true, plainKeys := false, apart := false, laid := [("unicode/utf8.acceptRanges", laid_unicode_utf8_acceptRanges), ("pandect/unit.nesting", laid_pandect_unit_nesting), ("unicode/utf8.first", laid_unicode_utf8_first)], narrowed := true }
def TreeeditRemoveInverseUptoSaid : Prop := treeeditRemoveInverseUptoRow.holds Tryd.pinned (OpenSpec.upto treeeditRemoveInverseSpec)

/-- 'pandectlaw08.TreeeditMoveInverse', WHERE WHAT IT READS IS OF BULK AT MOST 1048576: true; the input reads as it did. -/
def treeeditMoveInverseUptoRow : OpenClaim := { program := "ytcacnelhppakoaadoor", sum := "243b6a96183151b48275ae2e0566ad52a9bfce3626447866240e0a781e1dd543", func := "pandect/pandectlaw08.TreeeditMoveInverse", spec := "treeeditMoveInverse", unfollowed := true, recurses := true, named := ["unicode/utf8.first", "unicode/utf8.acceptRanges", "pandect/unit.nesting"], loops := true, plainKeys := false, apart := false, laid := [("unicode/utf8.acceptRanges", laid_unicode_utf8_acceptRanges), ("pandect/unit.nesting", laid_pandect_unit_nesting), ("unicode/utf8.first", laid_unicode_utf8_first)], narrowed := true }
def TreeeditMoveInverseUptoSaid : Prop := treeeditMoveInverseUptoRow.holds Tryd.pinned (OpenSpec.upto treeeditMoveInverseSpec)

end Rows
end Go.Proofs.YtcacnelhppakoaaDoor
