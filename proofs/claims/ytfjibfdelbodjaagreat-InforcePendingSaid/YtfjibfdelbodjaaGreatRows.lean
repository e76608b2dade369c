/-
  NARROWER THAN 'FOR EVERY INPUT', by the rows' own cells (each row's printed sentence says how): InforceDaysOf: loops · InforceOn: loops · InforceBreakpoints: loops · InforcePending: loops · InforcePurpose: loops · InforceOrder: loops.
  DERIVED. THE GIVEN ROWS OF THIS SEAT. 6 by the template 'for every input the law returns true; each argument reads behind the call as it read before'; 0 by the template 'total and deterministic' (their statements: YtfjibfdelbodjaaGreatTotals.lean).
  GIVEN WITH THE SEED: the statements are not yours to turn. If you find one false, say at which input.
  Laid BY PROGRAM, IN A SANDBOX (cutbox-rows.mjs): the forced cells as the released guide's own fill.sh prints them over the translation fc263775e4a53ff9… (all of the seat's roots in one cut). By AI agents, Wed Nov 11 2026. No macro, syntax, notation, axiom, sorry.
-/
import Derived.Test.YtfjibfdelbodjaaGreatChecked
import GoSem.Claim
import GoSem.ClaimJoined
import GoSem.ClaimMapViews
import Derived.JoinedTies
import Derived.KernelRfl
namespace Go.Proofs.YtfjibfdelbodjaaGreat
/- THE CELL 'sum', in the pinned program and in every row, IS THE sha256 OF THE DUMP (.gsa) THAT YtfjibfdelbodjaaGreatProg.lean LOADS. Nothing in Lean hashes anything: it is a label: what it is worth is what the hold of that sum in a sandbox is worth. -/
noncomputable def Tryz.pinned : Pinned := { name := "ytfjibfdelbodjaagreat", sum := "fc263775e4a53ff9123ac006d988c7c9095a0b0625d2f8c5d65e019388034c2a", checked := Tryz.checked }
namespace Rows
def none {H : Type} : Left H := { results := [], args := [] }

/-- 'pandectlaw29.InforceDaysOf': WHATEVER THE INPUT: true; the input reads as it did. -/
def inforceDaysOfSpec : ChangeSpec := { name := "inforceDaysOf", fn := fun _ => fun
  | [d1, d2, d3] => { results := [.lit (.bool true)], args := [d1, d2, d3] }
  | _ => none }
def inforceDaysOfRow : OpenClaim := { program := "ytfjibfdelbodjaagreat", sum := "fc263775e4a53ff9123ac006d988c7c9095a0b0625d2f8c5d65e019388034c2a", func := "pandect/pandectlaw29.InforceDaysOf", spec := "inforceDaysOf", unfollowed := true, recurses := true, loops := true, plainKeys := false, apart := false }
def InforceDaysOfSaid : Prop := inforceDaysOfRow.holds Tryz.pinned (OpenSpec.ofChange inforceDaysOfSpec)

/-- ITS FALSE NEIGHBOUR: 'it returns false'. Refute it at one input. -/
def inforceDaysOfWrong : ChangeSpec := { name := "inforceDaysOf", fn := fun _ => fun
  | [d1, d2, d3] => { results := [.lit (.bool false)], args := [d1, d2, d3] }
  | _ => none }
def InforceDaysOfWrongFalsely : Prop := inforceDaysOfRow.holds Tryz.pinned (OpenSpec.ofChange inforceDaysOfWrong)

/-- 'pandectlaw29.InforceOn': WHATEVER THE INPUT: true; the input reads as it did. -/
def inforceOnSpec : ChangeSpec := { name := "inforceOn", fn := fun _ => fun
  | [d1, d2, d3] => { results := [.lit (.bool true)], args := [d1, d2, d3] }
  | _ => none }
def inforceOnRow : OpenClaim := { program := "ytfjibfdelbodjaagreat", sum := "fc263775e4a53ff9123ac006d988c7c9095a0b0625d2f8c5d65e019388034c2a", func := "pandect/pandectlaw29.InforceOn", spec := "inforceOn", unfollowed := true, recurses := true, loops := true, plainKeys := false, apart := false }
def InforceOnSaid : Prop := inforceOnRow.holds Tryz.pinned (OpenSpec.ofChange inforceOnSpec)

/-- ITS FALSE NEIGHBOUR: 'it returns false'. Refute it at one input. -/
def inforceOnWrong : ChangeSpec := { name := "inforceOn", fn := fun _ => fun
  | [d1, d2, d3] => { results := [.lit (.bool false)], args := [d1, d2, d3] }
  | _ => none }
def InforceOnWrongFalsely : Prop := inforceOnRow.holds Tryz.pinned (OpenSpec.ofChange inforceOnWrong)

/-- 'pandectlaw29.InforceBreakpoints': WHATEVER THE INPUT: true; the input reads as it did. -/
def inforceBreakpointsSpec : ChangeSpec := { name := "inforceBreakpoints", fn := fun _ => fun
  | [d1, d2, d3, d4] => { results := [.lit (.bool true)], args := [d1, d2, d3, d4] }
  | _ => none }
def inforceBreakpointsRow : OpenClaim := { program := "ytfjibfdelbodjaagreat", sum := "fc263775e4a53ff9123ac006d988c7c9095a0b0625d2f8c5d65e019388034c2a", func := "pandect/pandectlaw29.InforceBreakpoints", spec := "inforceBreakpoints", unfollowed := true, recurses := true, loops := true, plainKeys := false, apart := false }
def InforceBreakpointsSaid : Prop := inforceBreakpointsRow.holds Tryz.pinned (OpenSpec.ofChange inforceBreakpointsSpec)

/-- ITS FALSE NEIGHBOUR: 'it returns false'. Refute it at one input. -/
def inforceBreakpointsWrong : ChangeSpec := { name := "inforceBreakpoints", fn := fun _ => fun
  | [d1, d2, d3, d4] => { results := [.lit (.bool false)], args := [d1, d2, d3, d4] }
  | _ => none }
def InforceBreakpointsWrongFalsely : Prop := inforceBreakpointsRow.holds Tryz.pinned (OpenSpec.ofChange inforceBreakpointsWrong)

/-- 'pandectlaw29.InforcePending': WHATEVER THE INPUT: true; the input reads as it did. -/
def inforcePendingSpec : ChangeSpec := { name := "inforcePending", fn := fun _ => fun
  | [d] => { results := [.lit (.bool true)], args := [d] }
  | _ => none }
def inforcePendingRow : OpenClaim := { program := "ytfjibfdelbodjaagreat", sum := "fc263775e4a53ff9123ac006d988c7c9095a0b0625d2f8c5d65e019388034c2a", func := "pandect/pandectlaw29.InforcePending", spec := "inforcePending", unfollowed := true, recurses := true, loops := true, plainKeys := false, apart := false }
def InforcePendingSaid : Prop := inforcePendingRow.holds Tryz.pinned (OpenSpec.ofChange inforcePendingSpec)

/-- ITS FALSE NEIGHBOUR: 'it returns false'. Refute it at one input. -/
def inforcePendingWrong : ChangeSpec := { name := "inforcePending", fn := fun _ => fun
  | [d] => { results := [.lit (.bool false)], args := [d] }
  | _ => none }
def InforcePendingWrongFalsely : Prop := inforcePendingRow.holds Tryz.pinned (OpenSpec.ofChange inforcePendingWrong)

/-- 'pandectlaw29.InforcePurpose': WHATEVER THE INPUT: true; the input reads as it did. -/
def inforcePurposeSpec : ChangeSpec := { name := "inforcePurpose", fn := fun _ => fun
  | [d1, d2, d3] => { results := [.lit (.bool true)], args := [d1, d2, d3] }
  | _ => none }
def inforcePurposeRow : OpenClaim := { program := "ytfjibfdelbodjaagreat", sum := "fc263775e4a53ff9123ac006d988c7c9095a0b0625d2f8c5d65e019388034c2a", func := "pandect/pandectlaw29.InforcePurpose", spec := "inforcePurpose", unfollowed := true, recurses := true, loops := true, plainKeys := false, apart := false }
def InforcePurposeSaid : Prop := inforcePurposeRow.holds Tryz.pinned (OpenSpec.ofChange inforcePurposeSpec)

/-- ITS FALSE NEIGHBOUR: 'it returns false'. Refute it at one input. -/
def inforcePurposeWrong : ChangeSpec := { name := "inforcePurpose", fn := fun _ => fun
  | [d1, d2, d3] => { results := [.lit (.bool false)], args := [d1, d2, d3] }
  | _ => none }
def InforcePurposeWrongFalsely : Prop := inforcePurposeRow.holds Tryz.pinned (OpenSpec.ofChange inforcePurposeWrong)

/-- 'pandectlaw29.InforceOrder': WHATEVER THE INPUT: true; the input reads as it did. -/
def inforceOrderSpec : ChangeSpec := { name := "inforceOrder", fn := fun _ => fun
  | [d1, d2, d3, d4, d5] => { results := [.lit (.bool true)], args := [d1, d2, d3, d4, d5] }
  | _ => none }
def inforceOrderRow : OpenClaim := { program := "ytfjibfdelbodjaagreat", sum := "fc263775e4a53ff9123ac006d988c7c9095a0b0625d2f8c5d65e019388034c2a", func := "pandect/pandectlaw29.InforceOrder", spec := "inforceOrder", unfollowed := true, recurses := true, loops := true, plainKeys := false, apart := false }
def InforceOrderSaid : Prop := inforceOrderRow.holds Tryz.pinned (OpenSpec.ofChange inforceOrderSpec)

/-- ITS FALSE NEIGHBOUR: 'it returns false'. Refute it at one input. -/
def inforceOrderWrong : ChangeSpec := { name := "inforceOrder", fn := fun _ => fun
  | [d1, d2, d3, d4, d5] => { results := [.lit (.bool false)], args := [d1, d2, d3, d4, d5] }
  | _ => none }
def InforceOrderWrongFalsely : Prop := inforceOrderRow.holds Tryz.pinned (OpenSpec.ofChange inforceOrderWrong)

/- THE SECOND FORM. 'bulk': how many values and letters a reading holds, each counted each time it is reached (what is shared counts as often as it is met; a slice's spare places count too). A statement '..UptoSaid' is the law's where the arguments, and the package variables that the reading takes, are together of bulk at most 1048576: NARROWER than '..Said'. Prove '..Said' where nothing that the law and all that it calls make is longer than what came in: it says more and counts as full. Else prove '..UptoSaid'. A law counts once. -/
mutual
def uptoBulk {H : Type} : DataW H → Nat
  | .lit (.string bytes) => bytes.length + 1
  | .lit _ => 1
  | .nil => 1
  | .ptr d => uptoBulk d + 1
  | .slice elems spare => uptoBulkAll elems + uptoBulkAll spare + 1
  | .agg parts => uptoBulkAll parts + 1
  | .iface _ d => uptoBulk d + 1
  | .map entries => uptoBulkEntries entries + 1
  | .held _ => 1
def uptoBulkAll {H : Type} : List (DataW H) → Nat
  | [] => 0
  | d :: r => uptoBulk d + uptoBulkAll r
def uptoBulkEntries {H : Type} : List (Lit × DataW H) → Nat
  | [] => 0
  | x :: r => uptoBulkEntry x + uptoBulkEntries r
def uptoBulkEntry {H : Type} : Lit × DataW H → Nat
  | (.string bytes, d) => bytes.length + uptoBulk d + 1
  | (_, d) => uptoBulk d + 1
 end
def uptoSmall : (H : Type) → List (DataW H) → Bool := fun _ ds => decide (uptoBulkAll ds ≤ 1048576)
def OpenSpec.upto (s : _root_.Go.ChangeSpec) : _root_.Go.OpenSpec := { _root_.Go.OpenSpec.ofChange s with cond := some uptoSmall }

/-- 'pandectlaw29.InforceDaysOf', WHERE WHAT IT READS IS OF BULK AT MOST 1048576: true; the input reads as it did. -/
def inforceDaysOfUptoRow : OpenClaim := { program := "ytfjibfdelbodjaagreat", sum := "fc263775e4a53ff9123ac006d988c7c9095a0b0625d2f8c5d65e019388034c2a", func := "pandect/pandectlaw29.InforceDaysOf", spec := "inforceDaysOf", unfollowed := true, recurses := true, loops := true, plainKeys := false, apart := false, narrowed := true }
def InforceDaysOfUptoSaid : Prop := inforceDaysOfUptoRow.holds Tryz.pinned (OpenSpec.upto inforceDaysOfSpec)

/-- 'pandectlaw29.InforceOn', WHERE WHAT IT READS IS OF BULK AT MOST 1048576: true; the input reads as it did. -/
def inforceOnUptoRow : OpenClaim := { program := "ytfjibfdelbodjaagreat", sum := "fc263775e4a53ff9123ac006d988c7c9095a0b0625d2f8c5d65e019388034c2a", func := "pandect/pandectlaw29.InforceOn", spec := "inforceOn", unfollowed := true, recurses := true, loops := true, plainKeys := false, apart := false, narrowed := true }
def InforceOnUptoSaid : Prop := inforceOnUptoRow.holds Tryz.pinned (OpenSpec.upto inforceOnSpec)

/-- 'pandectlaw29.InforceBreakpoints', WHERE WHAT IT READS IS OF BULK AT MOST 1048576: true; the input reads as it did. -/
def inforceBreakpointsUptoRow : OpenClaim := { program := "ytfjibfdelbodjaagreat", sum := "fc263775e4a53ff9123ac006d988c7c9095a0b0625d2f8c5d65e019388034c2a", func := "pandect/pandectlaw29.InforceBreakpoints", spec := "inforceBreakpoints", unfollowed := true, recurses := true, loops := true, plainKeys := false, apart := false, narrowed := true }
def InforceBreakpointsUptoSaid : Prop := inforceBreakpointsUptoRow.holds Tryz.pinned (OpenSpec.upto inforceBreakpointsSpec)

/-- 'pandectlaw29.InforcePending', WHERE WHAT IT READS IS OF BULK AT MOST 1048576: true; the input reads as it did. -/
def inforcePendingUptoRow : OpenClaim := { program := "ytfjibfdelbodjaagreat", sum := "fc263775e4a53ff9123ac006d988c7c9095a0b0625d2f8c5d65e019388034c2a", func := "pandect/pandectlaw29.InforcePending", spec := "inforcePending", unfollowed := true, recurses := true, loops := true, plainKeys := false, apart := false, narrowed := true }
def InforcePendingUptoSaid : Prop := inforcePendingUptoRow.holds Tryz.pinned (OpenSpec.upto inforcePendingSpec)

/-- 'pandectlaw29.InforcePurpose', WHERE WHAT IT READS IS OF BULK AT MOST 1048576: true; the input reads as it did. -/
def inforcePurposeUptoRow : OpenClaim := { program := "ytfjibfdelbodjaagreat", sum := "fc263775e4a53ff9123ac006d988c7c9095a0b0625d2f8c5d65e019388034c2a", func := "pandect/pandectlaw29.InforcePurpose", spec := "inforcePurpose", unfollowed := true, recurses := true, loops := true, plainKeys := false, apart := false, narrowed := true }
def InforcePurposeUptoSaid : Prop := inforcePurposeUptoRow.holds Tryz.pinned (OpenSpec.upto inforcePurposeSpec)

/-- 'pandectlaw29.InforceOrder', WHERE WHAT IT READS IS OF BULK AT MOST 1048576: true; the input reads as it did. -/
def inforceOrderUptoRow : OpenClaim := { program := "ytfjibfdelbodjaagreat", sum := "fc263775e4a53ff9123ac006d988c7c9095a0b0625d2f8c5d65e019388034c2a", func := "pandect/pandectlaw29.InforceOrder", spec := "inforceOrder", unfollowed := true, recurses := true, loops := true, plainKeys := false, apart := false, narrowed := true }
def InforceOrderUptoSaid : Prop := inforceOrderUptoRow.holds Tryz.pinned (OpenSpec.upto inforceOrderSpec)

end Rows
end Go.Proofs.YtfjibfdelbodjaaGreat
