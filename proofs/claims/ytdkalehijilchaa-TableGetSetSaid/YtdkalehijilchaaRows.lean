/-
  NARROWER THAN 'FOR EVERY INPUT', by the rows' own cells (each row's printed sentence says how): TableGetSet: loops · TableSort: loops · TableSortStable: loops.
  DERIVED. THE GIVEN ROWS OF THIS SEAT. 3 by the template 'for every input the law returns true; each argument reads behind the call as it read before'; 0 by the template 'total and deterministic' (their statements: YtdkalehijilchaaTotals.lean).
  GIVEN WITH THE SEED: the statements are not yours to turn. If you find one false, say at which input.
  Laid BY PROGRAM, IN A SANDBOX (cutbox-rows.mjs): the forced cells as the released guide's own fill.sh prints them over the translation 405bce7f0c60008a… (all of the seat's roots in one cut). By AI agents, Wed Nov 11 2026. No macro, syntax, notation, axiom, sorry.
-/
import Derived.Test.YtdkalehijilchaaChecked
import GoSem.Claim
import GoSem.ClaimJoined
import GoSem.ClaimMapViews
import Derived.JoinedTies
import Derived.KernelRfl
namespace Go.Proofs.Ytdkalehijilchaa
/- THE CELL 'sum', in the pinned program and in every row, IS THE sha256 OF THE DUMP (.gsa) THAT YtdkalehijilchaaProg.lean LOADS. Nothing in Lean hashes anything: it is a label: what it is worth is what the hold of that sum in a sandbox is worth. -/
noncomputable def Try.pinned : Pinned := { name := "ytdkalehijilchaa", sum := "405bce7f0c60008ad65576036cbab07c9f2ea418bdeae2a91b95be1f303c7866", checked := Try.checked }
namespace Rows
def none {H : Type} : Left H := { results := [], args := [] }

/-- 'pandectlaw09.TableGetSet': WHATEVER THE INPUT: true; the input reads as it did. -/
def tableGetSetSpec : ChangeSpec := { name := "tableGetSet", fn := fun _ => fun
  | [d1, d2, d3, d4, d5, d6] => { results := [.lit (.bool true)], args := [d1, d2, d3, d4, d5, d6] }
  | _ => none }
def tableGetSetRow : OpenClaim := { program := "ytdkalehijilchaa", sum := "405bce7f0c60008ad65576036cbab07c9f2ea418bdeae2a91b95be1f303c7866", func := "pandect/pandectlaw09.TableGetSet", spec := "tableGetSet", inPlace := ["internal/abi.NoEscape", "internal/bytealg.MakeNoZero"], unfollowed := true, recurses := true, loops := true, apart := false }
def TableGetSetSaid : Prop := tableGetSetRow.holds Try.pinned (OpenSpec.ofChange tableGetSetSpec)

/-- ITS FALSE NEIGHBOUR: 'it returns false'. Refute it at one input. -/
def tableGetSetWrong : ChangeSpec := { name := "tableGetSet", fn := fun _ => fun
  | [d1, d2, d3, d4, d5, d6] => { results := [.lit (.bool false)], args := [d1, d2, d3, d4, d5, d6] }
  | _ => none }
def TableGetSetWrongFalsely : Prop := tableGetSetRow.holds Try.pinned (OpenSpec.ofChange tableGetSetWrong)

/-- 'pandectlaw09.TableSort': WHATEVER THE INPUT: true; the input reads as it did. -/
def tableSortSpec : ChangeSpec := { name := "tableSort", fn := fun _ => fun
  | [d1, d2] => { results := [.lit (.bool true)], args := [d1, d2] }
  | _ => none }
def tableSortRow : OpenClaim := { program := "ytdkalehijilchaa", sum := "405bce7f0c60008ad65576036cbab07c9f2ea418bdeae2a91b95be1f303c7866", func := "pandect/pandectlaw09.TableSort", spec := "tableSort", inPlace := ["internal/abi.NoEscape", "internal/bytealg.MakeNoZero", "internal/bytealg.abigen_runtime_cmpstring"], unfollowed := true, recurses := true, loops := true, apart := false }
def TableSortSaid : Prop := tableSortRow.holds Try.pinned (OpenSpec.ofChange tableSortSpec)

/-- ITS FALSE NEIGHBOUR: 'it returns false'. Refute it at one input. -/
def tableSortWrong : ChangeSpec := { name := "tableSort", fn := fun _ => fun
  | [d1, d2] => { results := [.lit (.bool false)], args := [d1, d2] }
  | _ => none }
def TableSortWrongFalsely : Prop := tableSortRow.holds Try.pinned (OpenSpec.ofChange tableSortWrong)

/-- 'pandectlaw09.TableSortStable': WHATEVER THE INPUT: true; the input reads as it did. -/
def tableSortStableSpec : ChangeSpec := { name := "tableSortStable", fn := fun _ => fun
  | [d1, d2, d3] => { results := [.lit (.bool true)], args := [d1, d2, d3] }
  | _ => none }
def tableSortStableRow : OpenClaim := { program := "ytdkalehijilchaa", sum := "405bce7f0c60008ad65576036cbab07c9f2ea418bdeae2a91b95be1f303c7866", func := "pandect/pandectlaw09.TableSortStable", spec := "tableSortStable", inPlace := ["internal/abi.NoEscape", "internal/bytealg.MakeNoZero", "internal/bytealg.abigen_runtime_cmpstring"], unfollowed := true, recurses := true, loops := true, apart := false }
def TableSortStableSaid : Prop := tableSortStableRow.holds Try.pinned (OpenSpec.ofChange tableSortStableSpec)

/-- ITS FALSE NEIGHBOUR: 'it returns false'. Refute it at one input. -/
def tableSortStableWrong : ChangeSpec := { name := "tableSortStable", fn := fun _ => fun
  | [d1, d2, d3] => { results := [.lit (.bool false)], args := [d1, d2, d3] }
  | _ => none }
def TableSortStableWrongFalsely : Prop := tableSortStableRow.holds Try.pinned (OpenSpec.ofChange tableSortStableWrong)

/- THE SECOND FORM. 'bulk': how many values and letters a reading holds, each counted each time it is reached (what is shared counts as often as it is met; a slice's spare places count too). A statement '..UptoSaid' is the law's where the arguments, and the package variables that the reading takes, are together of bulk at most 1048576: NARROWER than '..Said'. Prove '..Said' where nothing that the law and all that it calls make is longer than what came in: it says more and counts as full. Else prove '..UptoSaid'. A law counts once. -/
mutual
def uptoBulk {H : Type} : DataW H → Nat
  | .lit (.string bytes) => bytes.length + 1
  | .lit _ => 1
  | .nil => 1
  | .ptr d => uptoBulk d + 1
  | .slice elems spare => uptoBulkAll elems + uptoBulkAll spare + 1
  | .agg parts => uptoBulkAll parts + 1
  | .iface _ d => uptoBulk d + 1
  | .map entries => uptoBulkEntries entries + 1
  | .held _ => 1
def uptoBulkAll {H : Type} : List (DataW H) → Nat
  | [] => 0
  | d :: r => uptoBulk d + uptoBulkAll r
def uptoBulkEntries {H : Type} : List (Lit × DataW H) → Nat
  | [] => 0
  | x :: r => uptoBulkEntry x + uptoBulkEntries r
def uptoBulkEntry {H : Type} : Lit × DataW H → Nat
  | (.string bytes, d) => bytes.length + uptoBulk d + 1
  | (_, d) => uptoBulk d + 1
 end
def uptoSmall : (H : Type) → List (DataW H) → Bool := fun _ ds => decide (uptoBulkAll ds ≤ 1048576)
def OpenSpec.upto (s : _root_.Go.ChangeSpec) : _root_.Go.OpenSpec := { _root_.Go.OpenSpec.ofChange s with cond := some uptoSmall }

/-- 'pandectlaw09.TableGetSet', WHERE WHAT IT READS IS OF BULK AT MOST 1048576: true; the input reads as it did. -/
def tableGetSetUptoRow : OpenClaim := { program := "ytdkalehijilchaa", sum := "405bce7f0c60008ad65576036cbab07c9f2ea418bdeae2a91b95be1f303c7866", func := "pandect/pandectlaw09.TableGetSet", spec := "tableGetSet", inPlace := ["internal/abi.NoEscape", "internal/bytealg.MakeNoZero"], unfollowed := true, recurses := true, loops := true, apart := false, narrowed := true }
def TableGetSetUptoSaid : Prop := tableGetSetUptoRow.holds Try.pinned (OpenSpec.upto tableGetSetSpec)

/-- 'pandectlaw09.TableSort', WHERE WHAT IT READS IS OF BULK AT MOST 1048576: true; the input reads as it did. -/
def tableSortUptoRow : OpenClaim := { program := "ytdkalehijilchaa", sum := "405bce7f0c60008ad65576036cbab07c9f2ea418bdeae2a91b95be1f303c7866", func := "pandect/pandectlaw09.TableSort", spec := "tableSort", inPlace := ["internal/abi.NoEscape", "internal/bytealg.MakeNoZero", "internal/bytealg.abigen_runtime_cmpstring"], unfollowed := true, recurses := true, loops := true, apart := false, narrowed := true }
def TableSortUptoSaid : Prop := tableSortUptoRow.holds Try.pinned (OpenSpec.upto tableSortSpec)

/-- 'pandectlaw09.TableSortStable', WHERE WHAT IT READS IS OF BULK AT MOST 1048576: true; the input reads as it did. -/
def tableSortStableUptoRow : OpenClaim := { program := "ytdkalehijilchaa", sum := "405bce7f0c60008ad65576036cbab07c9f2ea418bdeae2a91b95be1f303c7866", func := "pandect/pandectlaw09.TableSortStable", spec := "tableSortStable", inPlace := ["internal/abi.NoEscape", "internal/bytealg.MakeNoZero", "internal/bytealg.abigen_runtime_cmpstring"], unfollowed := true, recurses := true, loops := true, apart := false, narrowed := true }
def TableSortStableUptoSaid : Prop := tableSortStableUptoRow.holds Try.pinned (OpenSpec.upto tableSortStableSpec)

end Rows
end Go.Proofs.Ytdkalehijilchaa
