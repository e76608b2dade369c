/-
  NARROWER THAN 'FOR EVERY INPUT', by the rows' own cells (each row's printed sentence says how): CommencementInitial: loops · CommencementRefers: loops · CommencementInForce: loops · CommencementLastOrder: loops · CommencementIrrelevant: loops · CommencementEvent: loops · CommencementRevive: loops.
  DERIVED. THE GIVEN ROWS OF THIS SEAT. 7 by the template 'for every input the law returns true; each argument reads behind the call as it read before'; 0 by the template 'total and deterministic' (their statements: YtmgjpmjmondplaaTotals.lean).
  GIVEN WITH THE SEED: the statements are not yours to turn. If you find one false, say at which input.
  Laid BY PROGRAM, IN A SANDBOX (cutbox-rows.mjs): the forced cells as the released guide's own fill.sh prints them over the translation 745e51cec836eefb… (all of the seat's roots in one cut). By AI agents, Wed Nov 11 2026. No macro, syntax, notation, axiom, sorry.
-/
import Derived.Test.YtmgjpmjmondplaaChecked
import GoSem.Claim
import GoSem.ClaimJoined
import GoSem.ClaimMapViews
import Derived.JoinedTies
import Derived.KernelRfl
namespace Go.Proofs.Ytmgjpmjmondplaa
/- THE CELL 'sum', in the pinned program and in every row, IS THE sha256 OF THE DUMP (.gsa) THAT YtmgjpmjmondplaaProg.lean LOADS. Nothing in Lean hashes anything: it is a label: what it is worth is what the hold of that sum in a sandbox is worth. -/
noncomputable def Try.pinned : Pinned := { name := "ytmgjpmjmondplaa", sum := "745e51cec836eefb2d49f262b3ddd045912a50cbf4b9e758fe58714abd6ffcbb", checked := Try.checked }
namespace Rows
def none {H : Type} : Left H := { results := [], args := [] }

/-- 'pandectlaw27.CommencementInitial': WHATEVER THE INPUT: true; the input reads as it did. -/
def commencementInitialSpec : ChangeSpec := { name := "commencementInitial", fn := fun _ => fun
  | [d1, d2, d3, d4] => { results := [.lit (.bool true)], args := [d1, d2, d3, d4] }
  | _ => none }
def commencementInitialRow : OpenClaim := { program := "ytmgjpmjmondplaa", sum := "745e51cec836eefb2d49f262b3ddd045912a50cbf4b9e758fe58714abd6ffcbb", func := "pandect/pandectlaw27.CommencementInitial", spec := "commencementInitial", unfollowed := true, recurses := true, loops := true, apart := false }
def CommencementInitialSaid : Prop := commencementInitialRow.holds Try.pinned (OpenSpec.ofChange commencementInitialSpec)

/-- ITS FALSE NEIGHBOUR: 'it returns false'. Refute it at one input. -/
def commencementInitialWrong : ChangeSpec := { name := "commencementInitial", fn := fun _ => fun
  | [d1, d2, d3, d4] => { results := [.lit (.bool false)], args := [d1, d2, d3, d4] }
  | _ => none }
def CommencementInitialWrongFalsely : Prop := commencementInitialRow.holds Try.pinned (OpenSpec.ofChange commencementInitialWrong)

/-- 'pandectlaw27.CommencementRefers': WHATEVER THE INPUT: true; the input reads as it did. -/
def commencementRefersSpec : ChangeSpec := { name := "commencementRefers", fn := fun _ => fun
  | [d1, d2, d3] => { results := [.lit (.bool true)], args := [d1, d2, d3] }
  | _ => none }
def commencementRefersRow : OpenClaim := { program := "ytmgjpmjmondplaa", sum := "745e51cec836eefb2d49f262b3ddd045912a50cbf4b9e758fe58714abd6ffcbb", func := "pandect/pandectlaw27.CommencementRefers", spec := "commencementRefers", unfollowed := true, recurses := true, loops := true, apart := false }
def CommencementRefersSaid : Prop := commencementRefersRow.holds Try.pinned (OpenSpec.ofChange commencementRefersSpec)

/-- ITS FALSE NEIGHBOUR: 'it returns false'. Refute it at one input. -/
def commencementRefersWrong : ChangeSpec := { name := "commencementRefers", fn := fun _ => fun
  | [d1, d2, d3] => { results := [.lit (.bool false)], args := [d1, d2, d3] }
  | _ => none }
def CommencementRefersWrongFalsely : Prop := commencementRefersRow.holds Try.pinned (OpenSpec.ofChange commencementRefersWrong)

/-- 'pandectlaw27.CommencementInForce': WHATEVER THE INPUT: true; the input reads as it did. -/
def commencementInForceSpec : ChangeSpec := { name := "commencementInForce", fn := fun _ => fun
  | [d1, d2, d3] => { results := [.lit (.bool true)], args := [d1, d2, d3] }
  | _ => none }
def commencementInForceRow : OpenClaim := { program := "ytmgjpmjmondplaa", sum := "745e51cec836eefb2d49f262b3ddd045912a50cbf4b9e758fe58714abd6ffcbb", func := "pandect/pandectlaw27.CommencementInForce", spec := "commencementInForce", unfollowed := true, recurses := true, loops := true, apart := false }
def CommencementInForceSaid : Prop := commencementInForceRow.holds Try.pinned (OpenSpec.ofChange commencementInForceSpec)

/-- ITS FALSE NEIGHBOUR: 'it returns false'. Refute it at one input. -/
def commencementInForceWrong : ChangeSpec := { name := "commencementInForce", fn := fun _ => fun
  | [d1, d2, d3] => { results := [.lit (.bool false)], args := [d1, d2, d3] }
  | _ => none }
def CommencementInForceWrongFalsely : Prop := commencementInForceRow.holds Try.pinned (OpenSpec.ofChange commencementInForceWrong)

/-- 'pandectlaw27.CommencementLastOrder': WHATEVER THE INPUT: true; the input reads as it did. -/
def commencementLastOrderSpec : ChangeSpec := { name := "commencementLastOrder", fn := fun _ => fun
  | [d1, d2, d3, d4, d5, d6] => { results := [.lit (.bool true)], args := [d1, d2, d3, d4, d5, d6] }
  | _ => none }
def commencementLastOrderRow : OpenClaim := { program := "ytmgjpmjmondplaa", sum := "745e51cec836eefb2d49f262b3ddd045912a50cbf4b9e758fe58714abd6ffcbb", func := "pandect/pandectlaw27.CommencementLastOrder", spec := "commencementLastOrder", unfollowed := true, recurses := true, loops := true, apart := false }
def CommencementLastOrderSaid : Prop := commencementLastOrderRow.holds Try.pinned (OpenSpec.ofChange commencementLastOrderSpec)

/-- ITS FALSE NEIGHBOUR: 'it returns false'. Refute it at one input. -/
def commencementLastOrderWrong : ChangeSpec := { name := "commencementLastOrder", fn := fun _ => fun
  | [d1, d2, d3, d4, d5, d6] => { results := [.lit (.bool false)], args := [d1, d2, d3, d4, d5, d6] }
  | _ => none }
def CommencementLastOrderWrongFalsely : Prop := commencementLastOrderRow.holds Try.pinned (OpenSpec.ofChange commencementLastOrderWrong)

/-- 'pandectlaw27.CommencementIrrelevant': WHATEVER THE INPUT: true; the input reads as it did. -/
def commencementIrrelevantSpec : ChangeSpec := { name := "commencementIrrelevant", fn := fun _ => fun
  | [d1, d2, d3] => { results := [.lit (.bool true)], args := [d1, d2, d3] }
  | _ => none }
def commencementIrrelevantRow : OpenClaim := { program := "ytmgjpmjmondplaa", sum := "745e51cec836eefb2d49f262b3ddd045912a50cbf4b9e758fe58714abd6ffcbb", func := "pandect/pandectlaw27.CommencementIrrelevant", spec := "commencementIrrelevant", unfollowed := true, recurses := true, loops := true, apart := false }
def CommencementIrrelevantSaid : Prop := commencementIrrelevantRow.holds Try.pinned (OpenSpec.ofChange commencementIrrelevantSpec)

/-- ITS FALSE NEIGHBOUR: 'it returns false'. Refute it at one input. -/
def commencementIrrelevantWrong : ChangeSpec := { name := "commencementIrrelevant", fn := fun _ => fun
  | [d1, d2, d3] => { results := [.lit (.bool false)], args := [d1, d2, d3] }
  | _ => none }
def CommencementIrrelevantWrongFalsely : Prop := commencementIrrelevantRow.holds Try.pinned (OpenSpec.ofChange commencementIrrelevantWrong)

/-- 'pandectlaw27.CommencementEvent': WHATEVER THE INPUT: true; the input reads as it did. -/
def commencementEventSpec : ChangeSpec := { name := "commencementEvent", fn := fun _ => fun
  | [d1, d2, d3, d4] => { results := [.lit (.bool true)], args := [d1, d2, d3, d4] }
  | _ => none }
def commencementEventRow : OpenClaim := { program := "ytmgjpmjmondplaa", sum := "745e51cec836eefb2d49f262b3ddd045912a50cbf4b9e758fe58714abd6ffcbb", func := "pandect/pandectlaw27.CommencementEvent", spec := "commencementEvent", unfollowed := true, recurses := true, loops := true, apart := false }
def CommencementEventSaid : Prop := commencementEventRow.holds Try.pinned (OpenSpec.ofChange commencementEventSpec)

/-- ITS FALSE NEIGHBOUR: 'it returns false'. Refute it at one input. -/
def commencementEventWrong : ChangeSpec := { name := "commencementEvent", fn := fun _ => fun
  | [d1, d2, d3, d4] => { results := [.lit (.bool false)], args := [d1, d2, d3, d4] }
  | _ => none }
def CommencementEventWrongFalsely : Prop := commencementEventRow.holds Try.pinned (OpenSpec.ofChange commencementEventWrong)

/-- 'pandectlaw27.CommencementRevive': WHATEVER THE INPUT: true; the input reads as it did. -/
def commencementReviveSpec : ChangeSpec := { name := "commencementRevive", fn := fun _ => fun
  | [d1, d2, d3, d4] => { results := [.lit (.bool true)], args := [d1, d2, d3, d4] }
  | _ => none }
def commencementReviveRow : OpenClaim := { program := "ytmgjpmjmondplaa", sum := "745e51cec836eefb2d49f262b3ddd045912a50cbf4b9e758fe58714abd6ffcbb", func := "pandect/pandectlaw27.CommencementRevive", spec := "commencementRevive", unfollowed := true, recurses := true, loops := true, apart := false }
def CommencementReviveSaid : Prop := commencementReviveRow.holds Try.pinned (OpenSpec.ofChange commencementReviveSpec)

/-- ITS FALSE NEIGHBOUR: 'it returns false'. Refute it at one input. -/
def commencementReviveWrong : ChangeSpec := { name := "commencementRevive", fn := fun _ => fun
  | [d1, d2, d3, d4] => { results := [.lit (.bool false)], args := [d1, d2, d3, d4] }
  | _ => none }
def CommencementReviveWrongFalsely : Prop := commencementReviveRow.holds Try.pinned (OpenSpec.ofChange commencementReviveWrong)

/- THE SECOND FORM. 'bulk': how many values and letters a reading holds, each counted each time it is reached (what is shared counts as often as it is met; a slice's spare places count too). A statement '..UptoSaid' is the law's where the arguments, and the package variables that the reading takes, are together of bulk at most 1048576: NARROWER than '..Said'. Prove '..Said' where nothing that the law and all that it calls make is longer than what came in: it says more and counts as full. Else prove '..UptoSaid'. A law counts once. -/
mutual
def uptoBulk {H : Type} : DataW H → Nat
  | .lit (.string bytes) => bytes.length + 1
  | .lit _ => 1
  | .nil => 1
  | .ptr d => uptoBulk d + 1
  | .slice elems spare => uptoBulkAll elems + uptoBulkAll spare + 1
  | .agg parts => uptoBulkAll parts + 1
  | .iface _ d => uptoBulk d + 1
  | .map entries => uptoBulkEntries entries + 1
  | .held _ => 1
def uptoBulkAll {H : Type} : List (DataW H) → Nat
  | [] => 0
  | d :: r => uptoBulk d + uptoBulkAll r
def uptoBulkEntries {H : Type} : List (Lit × DataW H) → Nat
  | [] => 0
  | x :: r => uptoBulkEntry x + uptoBulkEntries r
def uptoBulkEntry {H : Type} : Lit × DataW H → Nat
  | (.string bytes, d) => bytes.length + uptoBulk d + 1
  | (_, d) => uptoBulk d + 1
 end
def uptoSmall : (H : Type) → List (DataW H) → Bool := fun _ ds => decide (uptoBulkAll ds ≤ 1048576)
def OpenSpec.upto (s : _root_.Go.ChangeSpec) : _root_.Go.OpenSpec := { _root_.Go.OpenSpec.ofChange s with cond := some uptoSmall }

/-- 'pandectlaw27.CommencementInitial', WHERE WHAT IT READS IS OF BULK AT MOST 1048576: true; the input reads as it did. -/
def commencementInitialUptoRow : OpenClaim := { program := "ytmgjpmjmondplaa", sum := "745e51cec836eefb2d49f262b3ddd045912a50cbf4b9e758fe58714abd6ffcbb", func := "pandect/pandectlaw27.CommencementInitial", spec := "commencementInitial", unfollowed := true, recurses := true, loops := true, apart := false, narrowed := true }
def CommencementInitialUptoSaid : Prop := commencementInitialUptoRow.holds Try.pinned (OpenSpec.upto commencementInitialSpec)

/-- 'pandectlaw27.CommencementRefers', WHERE WHAT IT READS IS OF BULK AT MOST 1048576: true; the input reads as it did. -/
def commencementRefersUptoRow : OpenClaim := { program := "ytmgjpmjmondplaa", sum := "745e51cec836eefb2d49f262b3ddd045912a50cbf4b9e758fe58714abd6ffcbb", func := "pandect/pandectlaw27.CommencementRefers", spec := "commencementRefers", unfollowed := true, recurses := true, loops := true, apart := false, narrowed := true }
def CommencementRefersUptoSaid : Prop := commencementRefersUptoRow.holds Try.pinned (OpenSpec.upto commencementRefersSpec)

/-- 'pandectlaw27.CommencementInForce', WHERE WHAT IT READS IS OF BULK AT MOST 1048576: true; the input reads as it did. -/
def commencementInForceUptoRow : OpenClaim := { program := "ytmgjpmjmondplaa", sum := "745e51cec836eefb2d49f262b3ddd045912a50cbf4b9e758fe58714abd6ffcbb", func := "pandect/pandectlaw27.CommencementInForce", spec := "commencementInForce", unfollowed := true, recurses := true, loops := true, apart := false, narrowed := true }
def CommencementInForceUptoSaid : Prop := commencementInForceUptoRow.holds Try.pinned (OpenSpec.upto commencementInForceSpec)

/-- 'pandectlaw27.CommencementLastOrder', WHERE WHAT IT READS IS OF BULK AT MOST 1048576: true; the input reads as it did. -/
def commencementLastOrderUptoRow : OpenClaim := { program := "ytmgjpmjmondplaa", sum := "745e51cec836eefb2d49f262b3ddd045912a50cbf4b9e758fe58714abd6ffcbb", func := "pandect/pandectlaw27.CommencementLastOrder", spec := "commencementLastOrder", unfollowed := true, recurses := true, loops := true, apart := false, narrowed := true }
def CommencementLastOrderUptoSaid : Prop := commencementLastOrderUptoRow.holds Try.pinned (OpenSpec.upto commencementLastOrderSpec)

/-- 'pandectlaw27.CommencementIrrelevant', WHERE WHAT IT READS IS OF BULK AT MOST 1048576: true; the input reads as it did. -/
def commencementIrrelevantUptoRow : OpenClaim := { program := "ytmgjpmjmondplaa", sum := "745e51cec836eefb2d49f262b3ddd045912a50cbf4b9e758fe58714abd6ffcbb", func := "pandect/pandectlaw27.CommencementIrrelevant", spec := "commencementIrrelevant", unfollowed := true, recurses := true, loops := true, apart := false, narrowed := true }
def CommencementIrrelevantUptoSaid : Prop := commencementIrrelevantUptoRow.holds Try.pinned (OpenSpec.upto commencementIrrelevantSpec)

/-- 'pandectlaw27.CommencementEvent', WHERE WHAT IT READS IS OF BULK AT MOST 1048576: true; the input reads as it did. -/
def commencementEventUptoRow : OpenClaim := { program := "ytmgjpmjmondplaa", sum := "745e51cec836eefb2d49f262b3ddd045912a50cbf4b9e758fe58714abd6ffcbb", func := "pandect/pandectlaw27.CommencementEvent", spec := "commencementEvent", unfollowed := true, recurses := true, loops := true, apart := false, narrowed := true }
def CommencementEventUptoSaid : Prop := commencementEventUptoRow.holds Try.pinned (OpenSpec.upto commencementEventSpec)

/-- 'pandectlaw27.CommencementRevive', WHERE WHAT IT READS IS OF BULK AT MOST 1048576: true; the input reads as it did. -/
def commencementReviveUptoRow : OpenClaim := { program := "ytmgjpmjmondplaa", sum := "745e51cec836eefb2d49f262b3ddd045912a50cbf4b9e758fe58714abd6ffcbb", func := "pandect/pandectlaw27.CommencementRevive", spec := "commencementRevive", unfollowed := true, recurses := true, loops := true, apart := false, narrowed := true }
def CommencementReviveUptoSaid : Prop := commencementReviveUptoRow.holds Try.pinned (OpenSpec.upto commencementReviveSpec)

end Rows
end Go.Proofs.Ytmgjpmjmondplaa
