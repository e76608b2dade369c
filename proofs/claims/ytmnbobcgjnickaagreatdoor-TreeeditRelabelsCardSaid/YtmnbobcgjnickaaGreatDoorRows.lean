/-
  NARROWER THAN 'FOR EVERY INPUT', by the rows' own cells (each row's printed sentence says how): TreeeditInserts: loops, laid · TreeeditMoves: loops, laid · TreeeditRelabels: loops, laid · TreeeditSetsWords: loops, laid · TreeeditLeavesRest: loops, laid.
  DERIVED. THE GIVEN ROWS OF THIS SEAT. 5 by the template 'for every input the law returns true; each argument reads behind the call as it read before'; 0 by the template 'total and deterministic' (their statements: YtmnbobcgjnickaaGreatDoorTotals.lean).
  GIVEN WITH THE SEED: the statements are not yours to turn. If you find one false, say at which input.
  Laid BY PROGRAM, IN A SANDBOX (cutbox-rows.mjs): the forced cells as the released guide's own fill.sh prints them over the translation 81be863c15f8ff94… (all of the seat's roots in one cut). By AI agents, Wed Nov 11 2026. No macro, syntax, notation, axiom, sorry.
-/
import Derived.Test.YtmnbobcgjnickaaGreatDoorChecked
import GoSem.PinnedTables
import GoSem.Claim
import GoSem.ClaimJoined
import GoSem.ClaimMapViews
import Derived.JoinedTies
import Derived.KernelRfl
namespace Go.Proofs.YtmnbobcgjnickaaGreatDoor
/- THE CELL 'sum', in the pinned program and in every row, IS THE sha256 OF THE DUMP (.gsa) THAT YtmnbobcgjnickaaGreatDoorProg.lean LOADS. Nothing in Lean hashes anything: it is a label: what it is worth is what the hold of that sum in a sandbox is worth. -/
noncomputable def Tryz.pinned : Pinned := { name := "ytmnbobcgjnickaagreatdoor", sum := "81be863c15f8ff942eb307b47a643b8a6d70f882ccdaaad48a4048a4ba658bd4", checked := Tryz.checked }
namespace Rows
def none {H : Type} : Left H := { results := [], args := [] }

/- WHAT THE LISTED PACKAGE-LEVEL VARIABLES READ AS WHEN THE CALL BEGINS. Each datum BY PROGRAM (the guide's laid-datum.mjs) off the statement by which the dump's own 'gosem.cut.vars' lays the variable. In a bare row this is a premise. The card (YtmnbobcgjnickaaGreatDoorCards.lean) ties it to the program's text. -/
def laid_unicode_utf8_acceptRanges {H : Type} : DataW H := .agg [.agg [.lit (.int .u8 128), .lit (.int .u8 191)], .agg [.lit (.int .u8 160), .lit (.int .u8 191)], .agg [.lit (.int .u8 128), .lit (.int .u8 159)], .agg [.lit (.int .u8 144), .lit (.int .u8 191)], .agg [.lit (.int .u8 128), .lit (.int .u8 143)], .agg [.lit (.int .u8 0), .lit (.int .u8 0)], .agg [.lit (.int .u8 0), .lit (.int .u8 0)], .agg [.lit (.int .u8 0), .lit (.int .u8 0)], .agg [.lit (.int .u8 0), .lit (.int .u8 0)], .agg [.lit (.int .u8 0), .lit (.int .u8 0)], .agg [.lit (.int .u8 0), .lit (.int .u8 0)], .agg [.lit (.int .u8 0), .lit (.int .u8 0)], .agg [.lit (.int .u8 0), .lit (.int .u8 0)], .agg [.lit (.int .u8 0), .lit (.int .u8 0)], .agg [.lit (.int .u8 0), .lit (.int .u8 0)], .agg [.lit (.int .u8 0), .lit (.int .u8 0)]]
def laid_pandect_unit_nesting {H : Type} : DataW H := .agg [.slice [.lit (.int .i64 1), .lit (.int .i64 2)] [], .slice [.lit (.int .i64 2)] [], .slice [.lit (.int .i64 3), .lit (.int .i64 4), .lit (.int .i64 7)] [], .slice [.lit (.int .i64 3), .lit (.int .i64 4), .lit (.int .i64 7)] [], .slice [.lit (.int .i64 5)] [], .slice [.lit (.int .i64 6)] [], .slice [] [], .slice [] []]
/-- One of Go's own tables, pinned by name: the form's constant. -/
def laid_unicode_utf8_first : DataW Unit := Go.Pinned.utf8First

/-- 'pandectlaw08.TreeeditInserts': WHATEVER THE INPUT: true; the input reads as it did. -/
def treeeditInsertsSpec : ChangeSpec := { name := "treeeditInserts", fn := fun _ => fun
  | [d1, d2, d3, d4] => { results := [.lit (.bool true)], args := [d1, d2, d3, d4] }
  | _ => none }
def treeeditInsertsRow : OpenClaim := { program := "ytmnbobcgjnickaagreatdoor", sum := "81be863c15f8ff942eb307b47a643b8a6d70f882ccdaaad48a4048a4ba658bd4", func := "pandect/pandectlaw08.TreeeditInserts", spec := "treeeditInserts", unfollowed := true, recurses := true, named := ["unicode/utf8.first", "unicode/utf8.acceptRanges", "pandect/unit.nesting"], loops := true, plainKeys := false, apart := false, laid := [("unicode/utf8.acceptRanges", laid_unicode_utf8_acceptRanges), ("pandect/unit.nesting", laid_pandect_unit_nesting), ("unicode/utf8.first", laid_unicode_utf8_first)] }
def TreeeditInsertsSaid : Prop := treeeditInsertsRow.holds Tryz.pinned (OpenSpec.ofChange treeeditInsertsSpec)

/-- ITS FALSE NEIGHBOUR: 'it returns false'. Refute it at one input. -/
def treeeditInsertsWrong : ChangeSpec := { name := "treeeditInserts", fn := fun _ => fun
  | [d1, d2, d3, d4] => { results := [.lit (.bool false)], args := [d1, d2, d3, d4] }
  | _ => none }
def TreeeditInsertsWrongFalsely : Prop := treeeditInsertsRow.holds Tryz.pinned (OpenSpec.ofChange treeeditInsertsWrong)

/-- 'pandectlaw08.TreeeditMoves': WHATEVER THE INPUT: true; the input reads as it did. -/
def treeeditMovesSpec : ChangeSpec := { name := "treeeditMoves", fn := fun _ => fun
  | [d1, d2, d3, d4] => { results := [.lit (.bool true)], args := [d1, d2, d3, d4] }
  | _ => none }
def treeeditMovesRow : OpenClaim := { program := "ytmnbobcgjnickaagreatdoor", sum := "81be863c15f8ff942eb307b47a643b8a6d70f882ccdaaad48a4048a4ba658bd4", func := "pandect/pandectlaw08.TreeeditMoves", spec := "treeeditMoves", unfollowed := true, recurses := true, named := ["unicode/utf8.first", "unicode/utf8.acceptRanges", "pandect/unit.nesting"], loops := true, plainKeys := false, apart := false, laid := [("unicode/utf8.acceptRanges", laid_unicode_utf8_acceptRanges), ("pandect/unit.nesting", laid_pandect_unit_nesting), ("unicode/utf8.first", laid_unicode_utf8_first)] }
def TreeeditMovesSaid : Prop := treeeditMovesRow.holds Tryz.pinned (OpenSpec.ofChange treeeditMovesSpec)

/-- ITS FALSE NEIGHBOUR: 'it returns false'. Refute it at one input. -/
def treeeditMovesWrong : ChangeSpec := { name := "treeeditMoves", fn := fun _ => fun
  | [d1, d2, d3, d4] => { results := [.lit (.bool false)], args := [d1, d2, d3, d4] }
  | _ => none }
def TreeeditMovesWrongFalsely : Prop := treeeditMovesRow.holds Tryz.pinned (OpenSpec.ofChange treeeditMovesWrong)

/-- 'pandectlaw08.TreeeditRelabels': WHATEVER THE INPUT: true; the input reads as it did. -/
def treeeditRelabelsSpec : ChangeSpec := { name := "treeeditRelabels", fn := fun _ => fun
  | [d1, d2, d3] => { results := [.lit (.bool true)], args := [d1, d2, d3] }
  | _ => none }
def treeeditRelabelsRow : OpenClaim := { program := "ytmnbobcgjnickaagreatdoor", sum := "81be863c15f8ff942eb307b47a643b8a6d70f882ccdaaad48a4048a4ba658bd4", func := "pandect/pandectlaw08.TreeeditRelabels", spec := "treeeditRelabels", unfollowed := true, recurses := true, named := ["unicode/utf8.first", "unicode/utf8.acceptRanges", "pandect/unit.nesting"], loops := true, plainKeys := false, apart := false, laid := [("unicode/utf8.acceptRanges", laid_unicode_utf8_acceptRanges), ("pandect/unit.nesting", laid_pandect_unit_nesting), ("unicode/utf8.first", laid_unicode_utf8_first)] }
def TreeeditRelabelsSaid : Prop := treeeditRelabelsRow.holds Tryz.pinned (OpenSpec.ofChange treeeditRelabelsSpec)

/-- ITS FALSE NEIGHBOUR: 'it returns false'. Refute it at one input. -/
def treeeditRelabelsWrong : ChangeSpec := { name := "treeeditRelabels", fn := fun _ => fun
  | [d1, d2, d3] => { results := [.lit (.bool false)], args := [d1, d2, d3] }
  | _ => none }
def TreeeditRelabelsWrongFalsely : Prop := treeeditRelabelsRow.holds Tryz.pinned (OpenSpec.ofChange treeeditRelabelsWrong)

/-- 'pandectlaw08.TreeeditSetsWords': WHATEVER THE INPUT: true; the input reads as it did. -/
def treeeditSetsWordsSpec : ChangeSpec := { name := "treeeditSetsWords", fn := fun _ => fun
  | [d1, d2, d3] => { results := [.lit (.bool true)], args := [d1, d2, d3] }
  | _ => none }
def treeeditSetsWordsRow : OpenClaim := { program := "ytmnbobcgjnickaagreatdoor", sum := "81be863c15f8ff942eb307b47a643b8a6d70f882ccdaaad48a4048a4ba658bd4", func := "pandect/pandectlaw08.TreeeditSetsWords", spec := "treeeditSetsWords", unfollowed := true, recurses := true, named := ["unicode/utf8.first", "unicode/utf8.acceptRanges", "pandect/unit.nesting"], loops := true, plainKeys := false, apart := false, laid := [("unicode/utf8.acceptRanges", laid_unicode_utf8_acceptRanges), ("pandect/unit.nesting", laid_pandect_unit_nesting), ("unicode/utf8.first", laid_unicode_utf8_first)] }
def TreeeditSetsWordsSaid : Prop := treeeditSetsWordsRow.holds Tryz.pinned (OpenSpec.ofChange treeeditSetsWordsSpec)

/-- ITS FALSE NEIGHBOUR: 'it returns false'. Refute it at one input. -/
def treeeditSetsWordsWrong : ChangeSpec := { name := "treeeditSetsWords", fn := fun _ => fun
  | [d1, d2, d3] => { results := [.lit (.bool false)], args := [d1, d2, d3] }
  | _ => none }
def TreeeditSetsWordsWrongFalsely : Prop := treeeditSetsWordsRow.holds Tryz.pinned (OpenSpec.ofChange treeeditSetsWordsWrong)

/-- 'pandectlaw08.TreeeditLeavesRest': WHATEVER THE INPUT: true; the input reads as it did. -/
def treeeditLeavesRestSpec : ChangeSpec := { name := "treeeditLeavesRest", fn := fun _ => fun
  | [d1, d2, d3, d4, d5, d6, d7] => { results := [.lit (.bool true)], args := [d1, d2, d3, d4, d5, d6, d7] }
  | _ => none }
def treeeditLeavesRestRow : OpenClaim := { program := "ytmnbobcgjnickaagreatdoor", sum := "81be863c15f8ff942eb307b47a643b8a6d70f882ccdaaad48a4048a4ba658bd4", func := "pandect/pandectlaw08.TreeeditLeavesRest", spec := "treeeditLeavesRest", unfollowed := true, recurses := true, named := ["unicode/utf8.first", "unicode/utf8.acceptRanges", "pandect/unit.nesting"], loops := true, plainKeys := false, apart := false, laid := [("unicode/utf8.acceptRanges", laid_unicode_utf8_acceptRanges), ("pandect/unit.nesting", laid_pandect_unit_nesting), ("unicode/utf8.first", laid_unicode_utf8_first)] }
def TreeeditLeavesRestSaid : Prop := treeeditLeavesRestRow.holds Tryz.pinned (OpenSpec.ofChange treeeditLeavesRestSpec)

/-- ITS FALSE NEIGHBOUR: 'it returns false'. Refute it at one input. -/
def treeeditLeavesRestWrong : ChangeSpec := { name := "treeeditLeavesRest", fn := fun _ => fun
  | [d1, d2, d3, d4, d5, d6, d7] => { results := [.lit (.bool false)], args := [d1, d2, d3, d4, d5, d6, d7] }
  | _ => none }
def TreeeditLeavesRestWrongFalsely : Prop := treeeditLeavesRestRow.holds Tryz.pinned (OpenSpec.ofChange treeeditLeavesRestWrong)

/- THE SECOND FORM. 'bulk': how many values and letters a reading holds, each counted each time it is reached (what is shared counts as often as it is met; a slice's spare places count too). A statement '..UptoSaid' is the law's where the arguments, and the package variables that the reading takes, are together of bulk at most 1048576: NARROWER than '..Said'. Prove '..Said' where nothing that the law and all that it calls make is longer than what came in: it says more and counts as full. Else prove '..UptoSaid'. A law counts once. -/
mutual
def uptoBulk {H : Type} : DataW H → Nat
  | .lit (.string bytes) => bytes.length + 1
  | .lit _ => 1
  | .nil => 1
  | .ptr d => uptoBulk d + 1
  | .slice elems spare => uptoBulkAll elems + uptoBulkAll spare + 1
  | .agg parts => uptoBulkAll parts + 1
  | .iface _ d => uptoBulk d + 1
  | .map entries => uptoBulkEntries entries + 1
  | .held _ => 1
def uptoBulkAll {H : Type} : List (DataW H) → Nat
  | [] => 0
  | d :: r => uptoBulk d + uptoBulkAll r
def uptoBulkEntries {H : Type} : List (Lit × DataW H) → Nat
  | [] => 0
  | x :: r => uptoBulkEntry x + uptoBulkEntries r
def uptoBulkEntry {H : Type} : Lit × DataW H → Nat
  | (.string bytes, d) => bytes.length + uptoBulk d + 1
  | (_, d) => uptoBulk d + 1
 end
def uptoSmall : (H : Type) → List (DataW H) → Bool := fun _ ds => decide (uptoBulkAll ds ≤ 1048576)
def OpenSpec.upto (s : _root_.Go.ChangeSpec) : _root_.Go.OpenSpec := { _root_.Go.OpenSpec.ofChange s with cond := some uptoSmall }

/-- 'pandectlaw08.TreeeditInserts', WHERE WHAT IT READS IS OF BULK AT MOST 1048576: true; the input reads as it did. -/
def treeeditInsertsUptoRow : OpenClaim := { program := "ytmnbobcgjnickaagreatdoor", sum := "81be863c15f8ff942eb307b47a643b8a6d70f882ccdaaad48a4048a4ba658bd4", func := "pandect/pandectlaw08.TreeeditInserts", spec := "treeeditInserts", unfollowed := true, recurses := true, named := ["unicode/utf8.first", "unicode/utf8.acceptRanges", "pandect/unit.nesting"], loops := true, plainKeys := false, apart := false, laid := [("unicode/utf8.acceptRanges", laid_unicode_utf8_acceptRanges), ("pandect/unit.nesting", laid_pandect_unit_nesting), ("unicode/utf8.first", laid_unicode_utf8_first)], narrowed := true }
def TreeeditInsertsUptoSaid : Prop := treeeditInsertsUptoRow.holds Tryz.pinned (OpenSpec.upto treeeditInsertsSpec)

/-- 'pandectlaw08.TreeeditMoves', WHERE WHAT IT READS IS OF BULK AT MOST 1048576: true; the input reads as it did. -/
def treeeditMovesUptoRow : OpenClaim := { program := "ytmnbobcgjnickaagreatdoor", sum := "81be863c15f8ff942eb307b47a643b8a6d70f882ccdaaad48a4048a4ba658bd4", func := "pandect/pandectlaw08.TreeeditMoves", spec := "treeeditMoves", unfollowed := true, recurses := true, named := ["unicode/utf8.first", "unicode/utf8.acceptRanges", "pandect/unit.nesting"], loops := true, plainKeys := false, apart := false, laid := [("unicode/utf8.acceptRanges", laid_unicode_utf8_acceptRanges), ("pandect/unit.nesting", laid_pandect_unit_nesting), ("unicode/utf8.first", laid_unicode_utf8_first)], narrowed := true }
def TreeeditMovesUptoSaid : Prop := treeeditMovesUptoRow.holds Tryz.pinned (OpenSpec.upto treeeditMovesSpec)

/-- 'pandectlaw08.TreeeditRelabels', WHERE WHAT IT READS IS OF BULK AT MOST 1048576: true; the input reads as it did. -/
def treeeditRelabelsUptoRow : OpenClaim := { program := "ytmnbobcgjnickaagreatdoor", sum := "81be863c15f8ff942eb307b47a643b8a6d70f882ccdaaad48a4048a4ba658bd4", func := "pandect/pandectlaw08.TreeeditRelabels", spec := "treeeditRelabels", unfollowed := true, recurses := true, named := ["unicode/utf8.first", "unicode/utf8.acceptRanges", "pandect/unit.nesting"], loops := true, plainKeys := false, apart := false, laid := [("unicode/utf8.acceptRanges", laid_unicode_utf8_acceptRanges), ("pandect/unit.nesting", laid_pandect_unit_nesting), ("unicode/utf8.first", laid_unicode_utf8_first)], narrowed := true }
def TreeeditRelabelsUptoSaid : Prop := treeeditRelabelsUptoRow.holds Tryz.pinned (OpenSpec.upto treeeditRelabelsSpec)

/-- 'pandectlaw08.TreeeditSetsWords', WHERE WHAT IT READS IS OF BULK AT MOST 1048576: true; the input reads as it did. -/
def treeeditSetsWordsUptoRow : OpenClaim := { program := "ytmnbobcgjnickaagreatdoor", sum := "81be863c15f8ff942eb307b47a643b8a6d70f882ccdaaad48a4048a4ba658bd4", func := "pandect/pandectlaw08.TreeeditSetsWords", spec := "treeeditSetsWords", unfollowed := true, recurses := true, named := ["unicode/utf8.first", "unicode/utf8.acceptRanges", "pandect/unit.nesting"], loops := true, plainKeys := false, apart := false, laid := [("unicode/utf8.acceptRanges", laid_unicode_utf8_acceptRanges), ("pandect/unit.nesting", laid_pandect_unit_nesting), ("unicode/utf8.first", laid_unicode_utf8_first)], narrowed := true }
def TreeeditSetsWordsUptoSaid : Prop := treeeditSetsWordsUptoRow.holds Tryz.pinned (OpenSpec.upto treeeditSetsWordsSpec)

/-- 'pandectlaw08.TreeeditLeavesRest', WHERE WHAT IT READS IS OF BULK AT MOST 1048576: true; the input reads as it did. -/
def treeeditLeavesRestUptoRow : OpenClaim := { program := "ytmnbobcgjnickaagreatdoor", sum := "81be863c15f8ff942eb307b47a643b8a6d70f882ccdaaad48a4048a4ba658bd4", func := "pandect/pandectlaw08.TreeeditLeavesRest", spec := "treeeditLeavesRest", unfollowed := true, recurses := true, named := ["unicode/utf8.first", "unicode/utf8.acceptRanges", "pandect/unit.nesting"], loops := true, plainKeys := false, apart := false, laid := [("unicode/utf8.acceptRanges", laid_unicode_utf8_acceptRanges), ("pandect/unit.nesting", laid_pandect_unit_nesting), ("unicode/utf8.first", laid_unicode_utf8_first)], narrowed := true }
def TreeeditLeavesRestUptoSaid : Prop := treeeditLeavesRestUptoRow.holds Tryz.pinned (OpenSpec.upto treeeditLeavesRestSpec)

end Rows
end Go.Proofs.YtmnbobcgjnickaaGreatDoor
