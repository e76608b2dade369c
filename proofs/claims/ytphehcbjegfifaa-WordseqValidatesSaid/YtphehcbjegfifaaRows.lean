/-
  No cell of these rows narrows 'for every input' (looked for: loops, veiled, ifaces, maps, wideKeys, modest, calm, conditions, laid).
  DERIVED. THE GIVEN ROWS OF THIS SEAT. 6 by the template 'for every input the law returns true; each argument reads behind the call as it read before'; 0 by the template 'total and deterministic' (their statements: YtphehcbjegfifaaTotals.lean).
  GIVEN WITH THE SEED: the statements are not yours to turn. If you find one false, say at which input.
  Laid BY PROGRAM, IN A SANDBOX (cutbox-rows.mjs): the forced cells as the released guide's own fill.sh prints them over the translation d6a379b85bc7b504… (all of the seat's roots in one cut). By AI agents, Wed Nov 11 2026. No macro, syntax, notation, axiom, sorry.
-/
import Derived.Test.YtphehcbjegfifaaChecked
import GoSem.Claim
import GoSem.ClaimJoined
import GoSem.ClaimMapViews
import Derived.JoinedTies
import Derived.KernelRfl
namespace Go.Proofs.Ytphehcbjegfifaa
/- THE CELL 'sum', in the pinned program and in every row, IS THE sha256 OF THE DUMP (.gsa) THAT YtphehcbjegfifaaProg.lean LOADS. Nothing in Lean hashes anything: it is a label: what it is worth is what the hold of that sum in a sandbox is worth. -/
noncomputable def Try.pinned : Pinned := { name := "ytphehcbjegfifaa", sum := "d6a379b85bc7b50434e9e877170cc8ba3b4f6a95f30d972be4fa43a5104ebc0d", checked := Try.checked }
namespace Rows
def none {H : Type} : Left H := { results := [], args := [] }

/-- 'pandectlaw04.WordseqValidates': WHATEVER THE INPUT: true; the input reads as it did. -/
def wordseqValidatesSpec : ChangeSpec := { name := "wordseqValidates", fn := fun _ => fun
  | [d] => { results := [.lit (.bool true)], args := [d] }
  | _ => none }
def wordseqValidatesRow : OpenClaim := { program := "ytphehcbjegfifaa", sum := "d6a379b85bc7b50434e9e877170cc8ba3b4f6a95f30d972be4fa43a5104ebc0d", func := "pandect/pandectlaw04.WordseqValidates", spec := "wordseqValidates", inPlace := ["internal/abi.NoEscape", "internal/bytealg.MakeNoZero"], unfollowed := true, recurses := true, apart := false }
def WordseqValidatesSaid : Prop := wordseqValidatesRow.holds Try.pinned (OpenSpec.ofChange wordseqValidatesSpec)

/-- ITS FALSE NEIGHBOUR: 'it returns false'. Refute it at one input. -/
def wordseqValidatesWrong : ChangeSpec := { name := "wordseqValidates", fn := fun _ => fun
  | [d] => { results := [.lit (.bool false)], args := [d] }
  | _ => none }
def WordseqValidatesWrongFalsely : Prop := wordseqValidatesRow.holds Try.pinned (OpenSpec.ofChange wordseqValidatesWrong)

/-- 'pandectlaw04.WordseqFinds': WHATEVER THE INPUT: true; the input reads as it did. -/
def wordseqFindsSpec : ChangeSpec := { name := "wordseqFinds", fn := fun _ => fun
  | [d1, d2] => { results := [.lit (.bool true)], args := [d1, d2] }
  | _ => none }
def wordseqFindsRow : OpenClaim := { program := "ytphehcbjegfifaa", sum := "d6a379b85bc7b50434e9e877170cc8ba3b4f6a95f30d972be4fa43a5104ebc0d", func := "pandect/pandectlaw04.WordseqFinds", spec := "wordseqFinds", unfollowed := true, recurses := true, apart := false }
def WordseqFindsSaid : Prop := wordseqFindsRow.holds Try.pinned (OpenSpec.ofChange wordseqFindsSpec)

/-- ITS FALSE NEIGHBOUR: 'it returns false'. Refute it at one input. -/
def wordseqFindsWrong : ChangeSpec := { name := "wordseqFinds", fn := fun _ => fun
  | [d1, d2] => { results := [.lit (.bool false)], args := [d1, d2] }
  | _ => none }
def WordseqFindsWrongFalsely : Prop := wordseqFindsRow.holds Try.pinned (OpenSpec.ofChange wordseqFindsWrong)

/-- 'pandectlaw04.WordseqOccurrencesDisjoint': WHATEVER THE INPUT: true; the input reads as it did. -/
def wordseqOccurrencesDisjointSpec : ChangeSpec := { name := "wordseqOccurrencesDisjoint", fn := fun _ => fun
  | [d1, d2] => { results := [.lit (.bool true)], args := [d1, d2] }
  | _ => none }
def wordseqOccurrencesDisjointRow : OpenClaim := { program := "ytphehcbjegfifaa", sum := "d6a379b85bc7b50434e9e877170cc8ba3b4f6a95f30d972be4fa43a5104ebc0d", func := "pandect/pandectlaw04.WordseqOccurrencesDisjoint", spec := "wordseqOccurrencesDisjoint", unfollowed := true, recurses := true, apart := false }
def WordseqOccurrencesDisjointSaid : Prop := wordseqOccurrencesDisjointRow.holds Try.pinned (OpenSpec.ofChange wordseqOccurrencesDisjointSpec)

/-- ITS FALSE NEIGHBOUR: 'it returns false'. Refute it at one input. -/
def wordseqOccurrencesDisjointWrong : ChangeSpec := { name := "wordseqOccurrencesDisjoint", fn := fun _ => fun
  | [d1, d2] => { results := [.lit (.bool false)], args := [d1, d2] }
  | _ => none }
def WordseqOccurrencesDisjointWrongFalsely : Prop := wordseqOccurrencesDisjointRow.holds Try.pinned (OpenSpec.ofChange wordseqOccurrencesDisjointWrong)

/-- 'pandectlaw04.WordseqReplaces': WHATEVER THE INPUT: true; the input reads as it did. -/
def wordseqReplacesSpec : ChangeSpec := { name := "wordseqReplaces", fn := fun _ => fun
  | [d1, d2, d3, d4] => { results := [.lit (.bool true)], args := [d1, d2, d3, d4] }
  | _ => none }
def wordseqReplacesRow : OpenClaim := { program := "ytphehcbjegfifaa", sum := "d6a379b85bc7b50434e9e877170cc8ba3b4f6a95f30d972be4fa43a5104ebc0d", func := "pandect/pandectlaw04.WordseqReplaces", spec := "wordseqReplaces", unfollowed := true, recurses := true, apart := false }
def WordseqReplacesSaid : Prop := wordseqReplacesRow.holds Try.pinned (OpenSpec.ofChange wordseqReplacesSpec)

/-- ITS FALSE NEIGHBOUR: 'it returns false'. Refute it at one input. -/
def wordseqReplacesWrong : ChangeSpec := { name := "wordseqReplaces", fn := fun _ => fun
  | [d1, d2, d3, d4] => { results := [.lit (.bool false)], args := [d1, d2, d3, d4] }
  | _ => none }
def WordseqReplacesWrongFalsely : Prop := wordseqReplacesRow.holds Try.pinned (OpenSpec.ofChange wordseqReplacesWrong)

/-- 'pandectlaw04.WordseqInserts': WHATEVER THE INPUT: true; the input reads as it did. -/
def wordseqInsertsSpec : ChangeSpec := { name := "wordseqInserts", fn := fun _ => fun
  | [d1, d2, d3, d4] => { results := [.lit (.bool true)], args := [d1, d2, d3, d4] }
  | _ => none }
def wordseqInsertsRow : OpenClaim := { program := "ytphehcbjegfifaa", sum := "d6a379b85bc7b50434e9e877170cc8ba3b4f6a95f30d972be4fa43a5104ebc0d", func := "pandect/pandectlaw04.WordseqInserts", spec := "wordseqInserts", unfollowed := true, recurses := true, apart := false }
def WordseqInsertsSaid : Prop := wordseqInsertsRow.holds Try.pinned (OpenSpec.ofChange wordseqInsertsSpec)

/-- ITS FALSE NEIGHBOUR: 'it returns false'. Refute it at one input. -/
def wordseqInsertsWrong : ChangeSpec := { name := "wordseqInserts", fn := fun _ => fun
  | [d1, d2, d3, d4] => { results := [.lit (.bool false)], args := [d1, d2, d3, d4] }
  | _ => none }
def WordseqInsertsWrongFalsely : Prop := wordseqInsertsRow.holds Try.pinned (OpenSpec.ofChange wordseqInsertsWrong)

/-- 'pandectlaw04.WordseqReplaceOneByOne': WHATEVER THE INPUT: true; the input reads as it did. -/
def wordseqReplaceOneByOneSpec : ChangeSpec := { name := "wordseqReplaceOneByOne", fn := fun _ => fun
  | [d1, d2, d3] => { results := [.lit (.bool true)], args := [d1, d2, d3] }
  | _ => none }
def wordseqReplaceOneByOneRow : OpenClaim := { program := "ytphehcbjegfifaa", sum := "d6a379b85bc7b50434e9e877170cc8ba3b4f6a95f30d972be4fa43a5104ebc0d", func := "pandect/pandectlaw04.WordseqReplaceOneByOne", spec := "wordseqReplaceOneByOne", unfollowed := true, recurses := true, apart := false }
def WordseqReplaceOneByOneSaid : Prop := wordseqReplaceOneByOneRow.holds Try.pinned (OpenSpec.ofChange wordseqReplaceOneByOneSpec)

/-- ITS FALSE NEIGHBOUR: 'it returns false'. Refute it at one input. -/
def wordseqReplaceOneByOneWrong : ChangeSpec := { name := "wordseqReplaceOneByOne", fn := fun _ => fun
  | [d1, d2, d3] => { results := [.lit (.bool false)], args := [d1, d2, d3] }
  | _ => none }
def WordseqReplaceOneByOneWrongFalsely : Prop := wordseqReplaceOneByOneRow.holds Try.pinned (OpenSpec.ofChange wordseqReplaceOneByOneWrong)

/- THE SECOND FORM. 'bulk': how many values and letters a reading holds, each counted each time it is reached (what is shared counts as often as it is met; a slice's spare places count too). A statement '..UptoSaid' is the law's where the arguments, and the package variables that the reading takes, are together of bulk at most 1048576: NARROWER than '..Said'. Prove '..Said' where nothing that the law and all that it calls make is longer than what came in: it says more and counts as full. Else prove '..UptoSaid'. A law counts once. -/
mutual
def uptoBulk {H : Type} : DataW H → Nat
  | .lit (.string bytes) => bytes.length + 1
  | .lit _ => 1
  | .nil => 1
  | .ptr d => uptoBulk d + 1
  | .slice elems spare => uptoBulkAll elems + uptoBulkAll spare + 1
  | .agg parts => uptoBulkAll parts + 1
  | .iface _ d => uptoBulk d + 1
  | .map entries => uptoBulkEntries entries + 1
  | .held _ => 1
def uptoBulkAll {H : Type} : List (DataW H) → Nat
  | [] => 0
  | d :: r => uptoBulk d + uptoBulkAll r
def uptoBulkEntries {H : Type} : List (Lit × DataW H) → Nat
  | [] => 0
  | x :: r => uptoBulkEntry x + uptoBulkEntries r
def uptoBulkEntry {H : Type} : Lit × DataW H → Nat
  | (.string bytes, d) => bytes.length + uptoBulk d + 1
  | (_, d) => uptoBulk d + 1
 end
def uptoSmall : (H : Type) → List (DataW H) → Bool := fun _ ds => decide (uptoBulkAll ds ≤ 1048576)
def OpenSpec.upto (s : _root_.Go.ChangeSpec) : _root_.Go.OpenSpec := { _root_.Go.OpenSpec.ofChange s with cond := some uptoSmall }

/-- 'pandectlaw04.WordseqValidates', WHERE WHAT IT READS IS OF BULK AT MOST 1048576: true; the input reads as it did. -/
def wordseqValidatesUptoRow : OpenClaim := { program := "ytphehcbjegfifaa", sum := "d6a379b85bc7b50434e9e877170cc8ba3b4f6a95f30d972be4fa43a5104ebc0d", func := "pandect/pandectlaw04.WordseqValidates", spec := "wordseqValidates", inPlace := ["internal/abi.NoEscape", "internal/bytealg.MakeNoZero"], unfollowed := true, recurses := true, apart := false, narrowed := true }
def WordseqValidatesUptoSaid : Prop := wordseqValidatesUptoRow.holds Try.pinned (OpenSpec.upto wordseqValidatesSpec)

/-- 'pandectlaw04.WordseqFinds', WHERE WHAT IT READS IS OF BULK AT MOST 1048576: true; the input reads as it did. -/
def wordseqFindsUptoRow : OpenClaim := { program := "ytphehcbjegfifaa", sum := "d6a379b85bc7b50434e9e877170cc8ba3b4f6a95f30d972be4fa43a5104ebc0d", func := "pandect/pandectlaw04.WordseqFinds", spec := "wordseqFinds", unfollowed := true, recurses := true, apart := false, narrowed := true }
def WordseqFindsUptoSaid : Prop := wordseqFindsUptoRow.holds Try.pinned (OpenSpec.upto wordseqFindsSpec)

/-- 'pandectlaw04.WordseqOccurrencesDisjoint', WHERE WHAT IT READS IS OF BULK AT MOST 1048576: true; the input reads as it did. -/
def wordseqOccurrencesDisjointUptoRow : OpenClaim := { program := "ytphehcbjegfifaa", sum := "d6a379b85bc7b50434e9e877170cc8ba3b4f6a95f30d972be4fa43a5104ebc0d", func := "pandect/pandectlaw04.WordseqOccurrencesDisjoint", spec := "wordseqOccurrencesDisjoint", unfollowed := true, recurses := true, apart := false, narrowed := true }
def WordseqOccurrencesDisjointUptoSaid : Prop := wordseqOccurrencesDisjointUptoRow.holds Try.pinned (OpenSpec.upto wordseqOccurrencesDisjointSpec)

/-- 'pandectlaw04.WordseqReplaces', WHERE WHAT IT READS IS OF BULK AT MOST 1048576: true; the input reads as it did. -/
def wordseqReplacesUptoRow : OpenClaim := { program := "ytphehcbjegfifaa", sum := "d6a379b85bc7b50434e9e877170cc8ba3b4f6a95f30d972be4fa43a5104ebc0d", func := "pandect/pandectlaw04.WordseqReplaces", spec := "wordseqReplaces", unfollowed := true, recurses := true, apart := false, narrowed := true }
def WordseqReplacesUptoSaid : Prop := wordseqReplacesUptoRow.holds Try.pinned (OpenSpec.upto wordseqReplacesSpec)

/-- 'pandectlaw04.WordseqInserts', WHERE WHAT IT READS IS OF BULK AT MOST 1048576: true; the input reads as it did. -/
def wordseqInsertsUptoRow : OpenClaim := { program := "ytphehcbjegfifaa", sum := "d6a379b85bc7b50434e9e877170cc8ba3b4f6a95f30d972be4fa43a5104ebc0d", func := "pandect/pandectlaw04.WordseqInserts", spec := "wordseqInserts", unfollowed := true, recurses := true, apart := false, narrowed := true }
def WordseqInsertsUptoSaid : Prop := wordseqInsertsUptoRow.holds Try.pinned (OpenSpec.upto wordseqInsertsSpec)

/-- 'pandectlaw04.WordseqReplaceOneByOne', WHERE WHAT IT READS IS OF BULK AT MOST 1048576: true; the input reads as it did. -/
def wordseqReplaceOneByOneUptoRow : OpenClaim := { program := "ytphehcbjegfifaa", sum := "d6a379b85bc7b50434e9e877170cc8ba3b4f6a95f30d972be4fa43a5104ebc0d", func := "pandect/pandectlaw04.WordseqReplaceOneByOne", spec := "wordseqReplaceOneByOne", unfollowed := true, recurses := true, apart := false, narrowed := true }
def WordseqReplaceOneByOneUptoSaid : Prop := wordseqReplaceOneByOneUptoRow.holds Try.pinned (OpenSpec.upto wordseqReplaceOneByOneSpec)

end Rows
end Go.Proofs.Ytphehcbjegfifaa
