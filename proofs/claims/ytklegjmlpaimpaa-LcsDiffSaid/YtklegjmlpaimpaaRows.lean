/-
  No cell of these rows narrows 'for every input' (looked for: loops, veiled, ifaces, maps, wideKeys, modest, calm, conditions, laid).
  DERIVED. THE GIVEN ROWS OF THIS SEAT. 7 by the template 'for every input the law returns true; each argument reads behind the call as it read before'; 0 by the template 'total and deterministic' (their statements: YtklegjmlpaimpaaTotals.lean).
  GIVEN WITH THE SEED: the statements are not yours to turn. If you find one false, say at which input.
  Laid BY PROGRAM, IN A SANDBOX (cutbox-rows.mjs): the forced cells as the released guide's own fill.sh prints them over the translation 78c4be1e96af7b51… (all of the seat's roots in one cut). By AI agents, Wed Nov 11 2026. No macro, syntax, notation, axiom, sorry.
-/
import Derived.Test.YtklegjmlpaimpaaChecked
import GoSem.Claim
import GoSem.ClaimJoined
import GoSem.ClaimMapViews
import Derived.JoinedTies
import Derived.KernelRfl
namespace Go.Proofs.Ytklegjmlpaimpaa
/- THE CELL 'sum', in the pinned program and in every row, IS THE sha256 OF THE DUMP (.gsa) THAT YtklegjmlpaimpaaProg.lean LOADS. Nothing in Lean hashes anything: it is a label: what it is worth is what the hold of that sum in a sandbox is worth. -/
noncomputable def Try.pinned : Pinned := { name := "ytklegjmlpaimpaa", sum := "78c4be1e96af7b51fcda0420cb90bc46176ab474f69c2fc9dcd4357366bcf8a4", checked := Try.checked }
namespace Rows
def none {H : Type} : Left H := { results := [], args := [] }

/-- 'pandectlaw05.LcsPairs': WHATEVER THE INPUT: true; the input reads as it did. -/
def lcsPairsSpec : ChangeSpec := { name := "lcsPairs", fn := fun _ => fun
  | [d1, d2] => { results := [.lit (.bool true)], args := [d1, d2] }
  | _ => none }
def lcsPairsRow : OpenClaim := { program := "ytklegjmlpaimpaa", sum := "78c4be1e96af7b51fcda0420cb90bc46176ab474f69c2fc9dcd4357366bcf8a4", func := "pandect/pandectlaw05.LcsPairs", spec := "lcsPairs", unfollowed := true, recurses := true, apart := false }
def LcsPairsSaid : Prop := lcsPairsRow.holds Try.pinned (OpenSpec.ofChange lcsPairsSpec)

/-- ITS FALSE NEIGHBOUR: 'it returns false'. Refute it at one input. -/
def lcsPairsWrong : ChangeSpec := { name := "lcsPairs", fn := fun _ => fun
  | [d1, d2] => { results := [.lit (.bool false)], args := [d1, d2] }
  | _ => none }
def LcsPairsWrongFalsely : Prop := lcsPairsRow.holds Try.pinned (OpenSpec.ofChange lcsPairsWrong)

/-- 'pandectlaw05.LcsDiff': WHATEVER THE INPUT: true; the input reads as it did. -/
def lcsDiffSpec : ChangeSpec := { name := "lcsDiff", fn := fun _ => fun
  | [d1, d2] => { results := [.lit (.bool true)], args := [d1, d2] }
  | _ => none }
def lcsDiffRow : OpenClaim := { program := "ytklegjmlpaimpaa", sum := "78c4be1e96af7b51fcda0420cb90bc46176ab474f69c2fc9dcd4357366bcf8a4", func := "pandect/pandectlaw05.LcsDiff", spec := "lcsDiff", unfollowed := true, recurses := true, apart := false }
def LcsDiffSaid : Prop := lcsDiffRow.holds Try.pinned (OpenSpec.ofChange lcsDiffSpec)

/-- ITS FALSE NEIGHBOUR: 'it returns false'. Refute it at one input. -/
def lcsDiffWrong : ChangeSpec := { name := "lcsDiff", fn := fun _ => fun
  | [d1, d2] => { results := [.lit (.bool false)], args := [d1, d2] }
  | _ => none }
def LcsDiffWrongFalsely : Prop := lcsDiffRow.holds Try.pinned (OpenSpec.ofChange lcsDiffWrong)

/-- 'pandectlaw05.LcsApply': WHATEVER THE INPUT: true; the input reads as it did. -/
def lcsApplySpec : ChangeSpec := { name := "lcsApply", fn := fun _ => fun
  | [d1, d2] => { results := [.lit (.bool true)], args := [d1, d2] }
  | _ => none }
def lcsApplyRow : OpenClaim := { program := "ytklegjmlpaimpaa", sum := "78c4be1e96af7b51fcda0420cb90bc46176ab474f69c2fc9dcd4357366bcf8a4", func := "pandect/pandectlaw05.LcsApply", spec := "lcsApply", unfollowed := true, recurses := true, apart := false }
def LcsApplySaid : Prop := lcsApplyRow.holds Try.pinned (OpenSpec.ofChange lcsApplySpec)

/-- ITS FALSE NEIGHBOUR: 'it returns false'. Refute it at one input. -/
def lcsApplyWrong : ChangeSpec := { name := "lcsApply", fn := fun _ => fun
  | [d1, d2] => { results := [.lit (.bool false)], args := [d1, d2] }
  | _ => none }
def LcsApplyWrongFalsely : Prop := lcsApplyRow.holds Try.pinned (OpenSpec.ofChange lcsApplyWrong)

/-- 'pandectlaw05.LcsMinimal': WHATEVER THE INPUT: true; the input reads as it did. -/
def lcsMinimalSpec : ChangeSpec := { name := "lcsMinimal", fn := fun _ => fun
  | [d1, d2] => { results := [.lit (.bool true)], args := [d1, d2] }
  | _ => none }
def lcsMinimalRow : OpenClaim := { program := "ytklegjmlpaimpaa", sum := "78c4be1e96af7b51fcda0420cb90bc46176ab474f69c2fc9dcd4357366bcf8a4", func := "pandect/pandectlaw05.LcsMinimal", spec := "lcsMinimal", unfollowed := true, recurses := true, apart := false }
def LcsMinimalSaid : Prop := lcsMinimalRow.holds Try.pinned (OpenSpec.ofChange lcsMinimalSpec)

/-- ITS FALSE NEIGHBOUR: 'it returns false'. Refute it at one input. -/
def lcsMinimalWrong : ChangeSpec := { name := "lcsMinimal", fn := fun _ => fun
  | [d1, d2] => { results := [.lit (.bool false)], args := [d1, d2] }
  | _ => none }
def LcsMinimalWrongFalsely : Prop := lcsMinimalRow.holds Try.pinned (OpenSpec.ofChange lcsMinimalWrong)

/-- 'pandectlaw05.LcsDistance': WHATEVER THE INPUT: true; the input reads as it did. -/
def lcsDistanceSpec : ChangeSpec := { name := "lcsDistance", fn := fun _ => fun
  | [d1, d2, d3] => { results := [.lit (.bool true)], args := [d1, d2, d3] }
  | _ => none }
def lcsDistanceRow : OpenClaim := { program := "ytklegjmlpaimpaa", sum := "78c4be1e96af7b51fcda0420cb90bc46176ab474f69c2fc9dcd4357366bcf8a4", func := "pandect/pandectlaw05.LcsDistance", spec := "lcsDistance", unfollowed := true, recurses := true, apart := false }
def LcsDistanceSaid : Prop := lcsDistanceRow.holds Try.pinned (OpenSpec.ofChange lcsDistanceSpec)

/-- ITS FALSE NEIGHBOUR: 'it returns false'. Refute it at one input. -/
def lcsDistanceWrong : ChangeSpec := { name := "lcsDistance", fn := fun _ => fun
  | [d1, d2, d3] => { results := [.lit (.bool false)], args := [d1, d2, d3] }
  | _ => none }
def LcsDistanceWrongFalsely : Prop := lcsDistanceRow.holds Try.pinned (OpenSpec.ofChange lcsDistanceWrong)

/-- 'pandectlaw05.LcsIncreasing': WHATEVER THE INPUT: true; the input reads as it did. -/
def lcsIncreasingSpec : ChangeSpec := { name := "lcsIncreasing", fn := fun _ => fun
  | [d1, d2] => { results := [.lit (.bool true)], args := [d1, d2] }
  | _ => none }
def lcsIncreasingRow : OpenClaim := { program := "ytklegjmlpaimpaa", sum := "78c4be1e96af7b51fcda0420cb90bc46176ab474f69c2fc9dcd4357366bcf8a4", func := "pandect/pandectlaw05.LcsIncreasing", spec := "lcsIncreasing", unfollowed := true, recurses := true, apart := false }
def LcsIncreasingSaid : Prop := lcsIncreasingRow.holds Try.pinned (OpenSpec.ofChange lcsIncreasingSpec)

/-- ITS FALSE NEIGHBOUR: 'it returns false'. Refute it at one input. -/
def lcsIncreasingWrong : ChangeSpec := { name := "lcsIncreasing", fn := fun _ => fun
  | [d1, d2] => { results := [.lit (.bool false)], args := [d1, d2] }
  | _ => none }
def LcsIncreasingWrongFalsely : Prop := lcsIncreasingRow.holds Try.pinned (OpenSpec.ofChange lcsIncreasingWrong)

/-- 'pandectlaw05.LcsLimits': WHATEVER THE INPUT: true; the input reads as it did. -/
def lcsLimitsSpec : ChangeSpec := { name := "lcsLimits", fn := fun _ => fun
  | [d1, d2, d3] => { results := [.lit (.bool true)], args := [d1, d2, d3] }
  | _ => none }
def lcsLimitsRow : OpenClaim := { program := "ytklegjmlpaimpaa", sum := "78c4be1e96af7b51fcda0420cb90bc46176ab474f69c2fc9dcd4357366bcf8a4", func := "pandect/pandectlaw05.LcsLimits", spec := "lcsLimits", unfollowed := true, recurses := true, apart := false }
def LcsLimitsSaid : Prop := lcsLimitsRow.holds Try.pinned (OpenSpec.ofChange lcsLimitsSpec)

/-- ITS FALSE NEIGHBOUR: 'it returns false'. Refute it at one input. -/
def lcsLimitsWrong : ChangeSpec := { name := "lcsLimits", fn := fun _ => fun
  | [d1, d2, d3] => { results := [.lit (.bool false)], args := [d1, d2, d3] }
  | _ => none }
def LcsLimitsWrongFalsely : Prop := lcsLimitsRow.holds Try.pinned (OpenSpec.ofChange lcsLimitsWrong)

/- THE SECOND FORM. 'bulk': how many values and letters a reading holds, each counted each time it is reached (what is shared counts as often as it is met; a slice's spare places count too). A statement '..UptoSaid' is the law's where the arguments, and the package variables that the reading takes, are together of bulk at most 1048576: NARROWER than '..Said'. Prove '..Said' where nothing that the law and all that it calls make is longer than what came in: it says more and counts as full. Else prove '..UptoSaid'. A law counts once. -/
mutual
def uptoBulk {H : Type} : DataW H → Nat
  | .lit (.string bytes) => bytes.length + 1
  | .lit _ => 1
  | .nil => 1
  | .ptr d => uptoBulk d + 1
  | .slice elems spare => uptoBulkAll elems + uptoBulkAll spare + 1
  | .agg parts => uptoBulkAll parts + 1
  | .iface _ d => uptoBulk d + 1
  | .map entries => uptoBulkEntries entries + 1
  | .held _ => 1
def uptoBulkAll {H : Type} : List (DataW H) → Nat
  | [] => 0
  | d :: r => uptoBulk d + uptoBulkAll r
def uptoBulkEntries {H : Type} : List (Lit × DataW H) → Nat
  | [] => 0
  | x :: r => uptoBulkEntry x + uptoBulkEntries r
def uptoBulkEntry {H : Type} : Lit × DataW H → Nat
  | (.string bytes, d) => bytes.length + uptoBulk d + 1
  | (_, d) => uptoBulk d + 1
 end
def uptoSmall : (H : Type) → List (DataW H) → Bool := fun _ ds => decide (uptoBulkAll ds ≤ 1048576)
def OpenSpec.upto (s : _root_.Go.ChangeSpec) : _root_.Go.OpenSpec := { _root_.Go.OpenSpec.ofChange s with cond := some uptoSmall }

/-- 'pandectlaw05.LcsPairs', WHERE WHAT IT READS IS OF BULK AT MOST 1048576: true; the input reads as it did. -/
def lcsPairsUptoRow : OpenClaim := { program := "ytklegjmlpaimpaa", sum := "78c4be1e96af7b51fcda0420cb90bc46176ab474f69c2fc9dcd4357366bcf8a4", func := "pandect/pandectlaw05.LcsPairs", spec := "lcsPairs", unfollowed := true, recurses := true, apart := false, narrowed := true }
def LcsPairsUptoSaid : Prop := lcsPairsUptoRow.holds Try.pinned (OpenSpec.upto lcsPairsSpec)

/-- 'pandectlaw05.LcsDiff', WHERE WHAT IT READS IS OF BULK AT MOST 1048576: true; the input reads as it did. -/
def lcsDiffUptoRow : OpenClaim := { program := "ytklegjmlpaimpaa", sum := "78c4be1e96af7b51fcda0420cb90bc46176ab474f69c2fc9dcd4357366bcf8a4", func := "pandect/pandectlaw05.LcsDiff", spec := "lcsDiff", unfollowed := true, recurses := true, apart := false, narrowed := true }
def LcsDiffUptoSaid : Prop := lcsDiffUptoRow.holds Try.pinned (OpenSpec.upto lcsDiffSpec)

/-- 'pandectlaw05.LcsApply', WHERE WHAT IT READS IS OF BULK AT MOST 1048576: true; the input reads as it did. -/
def lcsApplyUptoRow : OpenClaim := { program := "ytklegjmlpaimpaa", sum := "78c4be1e96af7b51fcda0420cb90bc46176ab474f69c2fc9dcd4357366bcf8a4", func := "pandect/pandectlaw05.LcsApply", spec := "lcsApply", unfollowed := true, recurses := true, apart := false, narrowed := true }
def LcsApplyUptoSaid : Prop := lcsApplyUptoRow.holds Try.pinned (OpenSpec.upto lcsApplySpec)

/-- 'pandectlaw05.LcsMinimal', WHERE WHAT IT READS IS OF BULK AT MOST 1048576: true; the input reads as it did. -/
def lcsMinimalUptoRow : OpenClaim := { program := "ytklegjmlpaimpaa", sum := "78c4be1e96af7b51fcda0420cb90bc46176ab474f69c2fc9dcd4357366bcf8a4", func := "pandect/pandectlaw05.LcsMinimal", spec := "lcsMinimal", unfollowed := true, recurses := true, apart := false, narrowed := true }
def LcsMinimalUptoSaid : Prop := lcsMinimalUptoRow.holds Try.pinned (OpenSpec.upto lcsMinimalSpec)

/-- 'pandectlaw05.LcsDistance', WHERE WHAT IT READS IS OF BULK AT MOST 1048576: true; the input reads as it did. -/
def lcsDistanceUptoRow : OpenClaim := { program := "ytklegjmlpaimpaa", sum := "78c4be1e96af7b51fcda0420cb90bc46176ab474f69c2fc9dcd4357366bcf8a4", func := "pandect/pandectlaw05.LcsDistance", spec := "lcsDistance", unfollowed := true, recurses := true, apart := false, narrowed := true }
def LcsDistanceUptoSaid : Prop := lcsDistanceUptoRow.holds Try.pinned (OpenSpec.upto lcsDistanceSpec)

/-- 'pandectlaw05.LcsIncreasing', WHERE WHAT IT READS IS OF BULK AT MOST 1048576: true; the input reads as it did. -/
def lcsIncreasingUptoRow : OpenClaim := { program := "ytklegjmlpaimpaa", sum := "78c4be1e96af7b51fcda0420cb90bc46176ab474f69c2fc9dcd4357366bcf8a4", func := "pandect/pandectlaw05.LcsIncreasing", spec := "lcsIncreasing", unfollowed := true, recurses := true, apart := false, narrowed := true }
def LcsIncreasingUptoSaid : Prop := lcsIncreasingUptoRow.holds Try.pinned (OpenSpec.upto lcsIncreasingSpec)

/-- 'pandectlaw05.LcsLimits', WHERE WHAT IT READS IS OF BULK AT MOST 1048576: true; the input reads as it did. -/
def lcsLimitsUptoRow : OpenClaim := { program := "ytklegjmlpaimpaa", sum := "78c4be1e96af7b51fcda0420cb90bc46176ab474f69c2fc9dcd4357366bcf8a4", func := "pandect/pandectlaw05.LcsLimits", spec := "lcsLimits", unfollowed := true, recurses := true, apart := false, narrowed := true }
def LcsLimitsUptoSaid : Prop := lcsLimitsUptoRow.holds Try.pinned (OpenSpec.upto lcsLimitsSpec)

end Rows
end Go.Proofs.Ytklegjmlpaimpaa
