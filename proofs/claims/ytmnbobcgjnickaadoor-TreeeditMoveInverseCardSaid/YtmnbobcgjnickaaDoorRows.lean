/-
  NARROWER THAN 'FOR EVERY INPUT', by the rows' own cells (each row's printed sentence says how): TreeeditRemoves: loops, laid · TreeeditRemoveInverse: loops, laid · TreeeditMoveInverse: loops, laid.
  DERIVED. THE GIVEN ROWS OF THIS SEAT. 3 by the template 'for every input the law returns true; each argument reads behind the call as it read before'; 0 by the template 'total and deterministic' (their statements: YtmnbobcgjnickaaDoorTotals.lean).
  GIVEN WITH THE SEED: the statements are not yours to turn. If you find one false, say at which input.
  Laid BY PROGRAM, IN A SANDBOX (cutbox-rows.mjs): the forced cells as the released guide's own fill.sh prints them over the translation 90211566ac7d71b2… (all of the seat's roots in one cut). By AI agents, Wed Nov 11 2026. No macro, syntax, notation, axiom, sorry.
-/
import Derived.Test.YtmnbobcgjnickaaDoorChecked
import GoSem.PinnedTables
import GoSem.Claim
import GoSem.ClaimJoined
import GoSem.ClaimMapViews
import Derived.JoinedTies
import Derived.KernelRfl
namespace Go.Proofs.YtmnbobcgjnickaaDoor
/- THE CELL 'sum', in the pinned program and in every row, IS THE sha256 OF THE DUMP (.gsa) THAT YtmnbobcgjnickaaDoorProg.lean LOADS. Nothing in Lean hashes anything: it is a label: what it is worth is what the hold of that sum in a sandbox is worth. -/
noncomputable def Tryd.pinned : Pinned := { name := "ytmnbobcgjnickaadoor", sum := "90211566ac7d71b2ab632a41065e5d7cb8c695737062f9a9786c707e35abb8ae", checked := Tryd.checked }
namespace Rows
def none {H : Type} : Left H := { results := [], args := [] }

/- WHAT THE LISTED PACKAGE-LEVEL VARIABLES READ AS WHEN THE CALL BEGINS. Each datum BY PROGRAM (the guide's laid-datum.mjs) off the statement by which the dump's own 'gosem.cut.vars' lays the variable. In a bare row this is a premise. The card (YtmnbobcgjnickaaDoorCards.lean) ties it to the program's text. -/
def laid_unicode_utf8_acceptRanges {H : Type} : DataW H := .agg [.agg [.lit (.int .u8 128), .lit (.int .u8 191)], .agg [.lit (.int .u8 160), .lit (.int .u8 191)], .agg [.lit (.int .u8 128), .lit (.int .u8 159)], .agg [.lit (.int .u8 144), .lit (.int .u8 191)], .agg [.lit (.int .u8 128), .lit (.int .u8 143)], .agg [.lit (.int .u8 0), .lit (.int .u8 0)], .agg [.lit (.int .u8 0), .lit (.int .u8 0)], .agg [.lit (.int .u8 0), .lit (.int .u8 0)], .agg [.lit (.int .u8 0), .lit (.int .u8 0)], .agg [.lit (.int .u8 0), .lit (.int .u8 0)], .agg [.lit (.int .u8 0), .lit (.int .u8 0)], .agg [.lit (.int .u8 0), .lit (.int .u8 0)], .agg [.lit (.int .u8 0), .lit (.int .u8 0)], .agg [.lit (.int .u8 0), .lit (.int .u8 0)], .agg [.lit (.int .u8 0), .lit (.int .u8 0)], .agg [.lit (.int .u8 0), .lit (.int .u8 0)]]
def laid_pandect_unit_nesting {H : Type} : DataW H := .agg [.slice [.lit (.int .i64 1), .lit (.int .i64 2)] [], .slice [.lit (.int .i64 2)] [], .slice [.lit (.int .i64 3), .lit (.int .i64 4), .lit (.int .i64 7)] [], .slice [.lit (.int .i64 3), .lit (.int .i64 4), .lit (.int .i64 7)] [], .slice [.lit (.int .i64 5)] [], .slice [.lit (.int .i64 6)] [], .slice [] [], .slice [] []]
/-- One of Go's own tables, pinned by name: the form's constant. -/
def laid_unicode_utf8_first : DataW Unit := Go.Pinned.utf8First

/-- 'pandectlaw08.TreeeditRemoves': WHATEVER THE INPUT: true; the input reads as it did. -/
def treeeditRemovesSpec : ChangeSpec := { name := "treeeditRemoves", fn := fun _ => fun
  | [d1, d2] => { results := [.lit (.bool true)], args := [d1, d2] }
  | _ => none }
def treeeditRemovesRow : OpenClaim := { program := "ytmnbobcgjnickaadoor", sum := "90211566ac7d71b2ab632a41065e5d7cb8c695737062f9a9786c707e35abb8ae", func := "pandect/pandectlaw08.TreeeditRemoves", spec := "treeeditRemoves", unfollowed := true, recurses := true, named := ["unicode/utf8.first", "unicode/utf8.acceptRanges", "pandect/unit.nesting"], loops := true, plainKeys := false, apart := false, laid := [("unicode/utf8.acceptRanges", laid_unicode_utf8_acceptRanges), ("pandect/unit.nesting", laid_pandect_unit_nesting), ("unicode/utf8.first", laid_unicode_utf8_first)] }
def TreeeditRemovesSaid : Prop := treeeditRemovesRow.holds Tryd.pinned (OpenSpec.ofChange treeeditRemovesSpec)

/-- ITS FALSE NEIGHBOUR: 'it returns false'. Refute it at one input. -/
def treeeditRemovesWrong : ChangeSpec := { name := "treeeditRemoves", fn := fun _ => fun
  | [d1, d2] => { results := [.lit (.bool false)], args := [d1, d2] }
  | _ => none }
def TreeeditRemovesWrongFalsely : Prop := treeeditRemovesRow.holds Tryd.pinned (OpenSpec.ofChange treeeditRemovesWrong)

/-- 'pandectlaw08.TreeeditRemoveInverse': WHATEVER THE INPUT: true; the input reads as it did. -/
def treeeditRemoveInverseSpec : ChangeSpec := { name := "treeeditRemoveInverse", fn := fun _ => fun
  | [d1, d2, d3, d4, d5] => { results := [.lit (.bool true)], args := [d1, d2, d3, d4, d5] }
  | _ => none }
def treeeditRemoveInverseRow : OpenClaim := { program := "ytmnbobcgjnickaadoor", sum := "90211566ac7d71b2ab632a41065e5d7cb8c695737062f9a9786c707e35abb8ae", func := "pandect/pandectlaw08.TreeeditRemoveInverse", spec := "treeeditRemoveInverse", unfollowed := true, recurses := true, named := ["unicode/utf8.first", "unicode/utf8.acceptRanges", "pandect/unit.nesting"], loops := true, plainKeys := false, apart := false, laid := [("unicode/utf8.acceptRanges", laid_unicode_utf8_acceptRanges), ("pandect/unit.nesting", laid_pandect_unit_nesting), ("unicode/utf8.first", laid_unicode_utf8_first)] }
def TreeeditRemoveInverseSaid : Prop := treeeditRemoveInverseRow.holds Tryd.pinned (OpenSpec.ofChange treeeditRemoveInverseSpec)

/-- ITS FALSE NEIGHBOUR: 'it returns false'. Refute it at one input. -/
def treeeditRemoveInverseWrong : ChangeSpec := { name := "treeeditRemoveInverse", fn := fun _ => fun
  | [d1, d2, d3, d4, d5] => { results := [.lit (.bool false)], args := [d1, d2, d3, d4, d5] }
  | _ => none }
def TreeeditRemoveInverseWrongFalsely : Prop := treeeditRemoveInverseRow.holds Tryd.pinned (OpenSpec.ofChange treeeditRemoveInverseWrong)

/-- 'pandectlaw08.TreeeditMoveInverse': WHATEVER THE INPUT: true; the input reads as it did. -/
def treeeditMoveInverseSpec : ChangeSpec := { name := "treeeditMoveInverse", fn := fun _ => fun
  | [d1, d2, d3, d4] => { results := [.lit (.bool true)], args := [d1, d2, d3, d4] }
  | _ => none }
def treeeditMoveInverseRow : OpenClaim := { program := "ytmnbobcgjnickaadoor", sum := "90211566ac7d71b2ab632a41065e5d7cb8c695737062f9a9786c707e35abb8ae", func := "pandect/pandectlaw08.TreeeditMoveInverse", spec := "treeeditMoveInverse", unfollowed := true, recurses := true, named := ["unicode/utf8.first", "unicode/utf8.acceptRanges", "pandect/unit.nesting"], loops := true, plainKeys := false, apart := false, laid := [("unicode/utf8.acceptRanges", laid_unicode_utf8_acceptRanges), ("pandect/unit.nesting", laid_pandect_unit_nesting), ("unicode/utf8.first", laid_unicode_utf8_first)] }
def TreeeditMoveInverseSaid : Prop := treeeditMoveInverseRow.holds Tryd.pinned (OpenSpec.ofChange treeeditMoveInverseSpec)

/-- ITS FALSE NEIGHBOUR: 'it returns false'. Refute it at one input. -/
def treeeditMoveInverseWrong : ChangeSpec := { name := "treeeditMoveInverse", fn := fun _ => fun
  | [d1, d2, d3, d4] => { results := [.lit (.bool false)], args := [d1, d2, d3, d4] }
  | _ => none }
def TreeeditMoveInverseWrongFalsely : Prop := treeeditMoveInverseRow.holds Tryd.pinned (OpenSpec.ofChange treeeditMoveInverseWrong)

/- THE SECOND FORM. 'bulk': how many values and letters a reading holds, each counted each time it is reached (what is shared counts as often as it is met; a slice's spare places count too). A statement '..UptoSaid' is the law's where the arguments, and the package variables that the reading takes, are together of bulk at most 1048576: NARROWER than '..Said'. Prove '..Said' where nothing that the law and all that it calls make is longer than what came in: it says more and counts as full. Else prove '..UptoSaid'. A law counts once. -/
mutual
def uptoBulk {H : Type} : DataW H → Nat
  | .lit (.string bytes) => bytes.length + 1
  | .lit _ => 1
  | .nil => 1
  | .ptr d => uptoBulk d + 1
  | .slice elems spare => uptoBulkAll elems + uptoBulkAll spare + 1
  | .agg parts => uptoBulkAll parts + 1
  | .iface _ d => uptoBulk d + 1
  | .map entries => uptoBulkEntries entries + 1
  | .held _ => 1
def uptoBulkAll {H : Type} : List (DataW H) → Nat
  | [] => 0
  | d :: r => uptoBulk d + uptoBulkAll r
def uptoBulkEntries {H : Type} : List (Lit × DataW H) → Nat
  | [] => 0
  | x :: r => uptoBulkEntry x + uptoBulkEntries r
def uptoBulkEntry {H : Type} : Lit × DataW H → Nat
  | (.string bytes, d) => bytes.length + uptoBulk d + 1
  | (_, d) => uptoBulk d + 1
 end
def uptoSmall : (H : Type) → List (DataW H) → Bool := fun _ ds => decide (uptoBulkAll ds ≤ 1048576)
def OpenSpec.upto (s : _root_.Go.ChangeSpec) : _root_.Go.OpenSpec := { _root_.Go.OpenSpec.ofChange s with cond := some uptoSmall }

/-- 'pandectlaw08.TreeeditRemoves', WHERE WHAT IT READS IS OF BULK AT MOST 1048576: true; the input reads as it did. -/
def treeeditRemovesUptoRow : OpenClaim := { program := "ytmnbobcgjnickaadoor", sum := "90211566ac7d71b2ab632a41065e5d7cb8c695737062f9a9786c707e35abb8ae", func := "pandect/pandectlaw08.TreeeditRemoves", spec := "treeeditRemoves", unfollowed := true, recurses := true, named := ["unicode/utf8.first", "unicode/utf8.acceptRanges", "pandect/unit.nesting"], loops := true, plainKeys := false, apart := false, laid := [("unicode/utf8.acceptRanges", laid_unicode_utf8_acceptRanges), ("pandect/unit.nesting", laid_pandect_unit_nesting), ("unicode/utf8.first", laid_unicode_utf8_first)], narrowed := true }
def TreeeditRemovesUptoSaid : Prop := treeeditRemovesUptoRow.holds Tryd.pinned (OpenSpec.upto treeeditRemovesSpec)

/-- 'pandectlaw08.TreeeditRemoveInverse', WHERE WHAT IT READS IS OF BULK AT MOST 1048576: true; the input reads as it did. -/
def treeeditRemoveInverseUptoRow : OpenClaim := { program := "ytmnbobcgjnickaadoor", sum := "90211566ac7d71b2ab632a41065e5d7cb8c695737062f9a9786c707e35abb8ae", func := "pandect/pandectlaw08.TreeeditRemoveInverse", spec := "treeeditRemoveInverse", unfollowed := true, recurses := true, named := ["unicode/utf8.first", "unicode/utf8.acceptRanges", "pandect/unit.nesting"], loops := true, plainKeys := false, apart := false, laid := [("unicode/utf8.acceptRanges", laid_unicode_utf8_acceptRanges), ("pandect/unit.nesting", laid_pandect_unit_nesting), ("unicode/utf8.first", laid_unicode_utf8_first)], narrowed := true }
def TreeeditRemoveInverseUptoSaid : Prop := treeeditRemoveInverseUptoRow.holds Tryd.pinned (OpenSpec.upto treeeditRemoveInverseSpec)

/-- 'pandectlaw08.TreeeditMoveInverse', WHERE WHAT IT READS IS OF BULK AT MOST 1048576: true; the input reads as it did. -/
def treeeditMoveInverseUptoRow : OpenClaim := { program := "ytmnbobcgjnickaadoor", sum := "90211566ac7d71b2ab632a41065e5d7cb8c695737062f9a9786c707e35abb8ae", func := "pandect/pandectlaw08.TreeeditMoveInverse", spec := "treeeditMoveInverse", unfollowed := true, recurses := true, named := ["unicode/utf8.first", "unicode/utf8.acceptRanges", "pandect/unit.nesting"], loops := true, plainKeys := false, apart := false, laid := [("unicode/utf8.acceptRanges", laid_unicode_utf8_acceptRanges), ("pandect/unit.nesting", laid_pandect_unit_nesting), ("unicode/utf8.first", laid_unicode_utf8_first)], narrowed := true }
def TreeeditMoveInverseUptoSaid : Prop := treeeditMoveInverseUptoRow.holds Tryd.pinned (OpenSpec.upto treeeditMoveInverseSpec)

end Rows
end Go.Proofs.YtmnbobcgjnickaaDoor
