/-
  No cell of these rows narrows 'for every input' (looked for: loops, veiled, ifaces, maps, wideKeys, modest, calm, conditions, laid).
  DERIVED. THE GIVEN ROWS OF THIS SEAT. 5 by the template 'for every input the law returns true; each argument reads behind the call as it read before'; 0 by the template 'total and deterministic' (their statements: YtmaapgbplbhlfaaTotals.lean).
  GIVEN WITH THE SEED: the statements are not yours to turn. If you find one false, say at which input.
  Laid BY PROGRAM, IN A SANDBOX (cutbox-rows.mjs): the forced cells as the released guide's own fill.sh prints them over the translation 01d685433a2d357e… (all of the seat's roots in one cut). By AI agents, Wed Nov 11 2026. No macro, syntax, notation, axiom, sorry.
-/
import Derived.Test.YtmaapgbplbhlfaaChecked
import GoSem.Claim
import GoSem.ClaimJoined
import GoSem.ClaimMapViews
import Derived.JoinedTies
import Derived.KernelRfl
namespace Go.Proofs.Ytmaapgbplbhlfaa
/- THE CELL 'sum', in the pinned program and in every row, IS THE sha256 OF THE DUMP (.gsa) THAT YtmaapgbplbhlfaaProg.lean LOADS. Nothing in Lean hashes anything: it is a label: what it is worth is what the hold of that sum in a sandbox is worth. -/
noncomputable def Try.pinned : Pinned := { name := "ytmaapgbplbhlfaa", sum := "01d685433a2d357e3f48b545640169fa53fe10b8d198bd94145faba3df974c80", checked := Try.checked }
namespace Rows
def none {H : Type} : Left H := { results := [], args := [] }

/-- 'pandectlaw13.PagestoreModel': WHATEVER THE INPUT: true; the input reads as it did. -/
def pagestoreModelSpec : ChangeSpec := { name := "pagestoreModel", fn := fun _ => fun
  | [d1, d2] => { results := [.lit (.bool true)], args := [d1, d2] }
  | _ => none }
def pagestoreModelRow : OpenClaim := { program := "ytmaapgbplbhlfaa", sum := "01d685433a2d357e3f48b545640169fa53fe10b8d198bd94145faba3df974c80", func := "pandect/pandectlaw13.PagestoreModel", spec := "pagestoreModel", unfollowed := true, recurses := true, apart := false }
def PagestoreModelSaid : Prop := pagestoreModelRow.holds Try.pinned (OpenSpec.ofChange pagestoreModelSpec)

/-- ITS FALSE NEIGHBOUR: 'it returns false'. Refute it at one input. -/
def pagestoreModelWrong : ChangeSpec := { name := "pagestoreModel", fn := fun _ => fun
  | [d1, d2] => { results := [.lit (.bool false)], args := [d1, d2] }
  | _ => none }
def PagestoreModelWrongFalsely : Prop := pagestoreModelRow.holds Try.pinned (OpenSpec.ofChange pagestoreModelWrong)

/-- 'pandectlaw13.PagestoreAtomic': WHATEVER THE INPUT: true; the input reads as it did. -/
def pagestoreAtomicSpec : ChangeSpec := { name := "pagestoreAtomic", fn := fun _ => fun
  | [d1, d2, d3, d4] => { results := [.lit (.bool true)], args := [d1, d2, d3, d4] }
  | _ => none }
def pagestoreAtomicRow : OpenClaim := { program := "ytmaapgbplbhlfaa", sum := "01d685433a2d357e3f48b545640169fa53fe10b8d198bd94145faba3df974c80", func := "pandect/pandectlaw13.PagestoreAtomic", spec := "pagestoreAtomic", unfollowed := true, recurses := true, apart := false }
def PagestoreAtomicSaid : Prop := pagestoreAtomicRow.holds Try.pinned (OpenSpec.ofChange pagestoreAtomicSpec)

/-- ITS FALSE NEIGHBOUR: 'it returns false'. Refute it at one input. -/
def pagestoreAtomicWrong : ChangeSpec := { name := "pagestoreAtomic", fn := fun _ => fun
  | [d1, d2, d3, d4] => { results := [.lit (.bool false)], args := [d1, d2, d3, d4] }
  | _ => none }
def PagestoreAtomicWrongFalsely : Prop := pagestoreAtomicRow.holds Try.pinned (OpenSpec.ofChange pagestoreAtomicWrong)

/-- 'pandectlaw13.PagestoreFailAfter': WHATEVER THE INPUT: true; the input reads as it did. -/
def pagestoreFailAfterSpec : ChangeSpec := { name := "pagestoreFailAfter", fn := fun _ => fun
  | [d1, d2] => { results := [.lit (.bool true)], args := [d1, d2] }
  | _ => none }
def pagestoreFailAfterRow : OpenClaim := { program := "ytmaapgbplbhlfaa", sum := "01d685433a2d357e3f48b545640169fa53fe10b8d198bd94145faba3df974c80", func := "pandect/pandectlaw13.PagestoreFailAfter", spec := "pagestoreFailAfter", unfollowed := true, recurses := true, apart := false }
def PagestoreFailAfterSaid : Prop := pagestoreFailAfterRow.holds Try.pinned (OpenSpec.ofChange pagestoreFailAfterSpec)

/-- ITS FALSE NEIGHBOUR: 'it returns false'. Refute it at one input. -/
def pagestoreFailAfterWrong : ChangeSpec := { name := "pagestoreFailAfter", fn := fun _ => fun
  | [d1, d2] => { results := [.lit (.bool false)], args := [d1, d2] }
  | _ => none }
def PagestoreFailAfterWrongFalsely : Prop := pagestoreFailAfterRow.holds Try.pinned (OpenSpec.ofChange pagestoreFailAfterWrong)

/-- 'pandectlaw13.PagestoreClone': WHATEVER THE INPUT: true; the input reads as it did. -/
def pagestoreCloneSpec : ChangeSpec := { name := "pagestoreClone", fn := fun _ => fun
  | [d1, d2, d3] => { results := [.lit (.bool true)], args := [d1, d2, d3] }
  | _ => none }
def pagestoreCloneRow : OpenClaim := { program := "ytmaapgbplbhlfaa", sum := "01d685433a2d357e3f48b545640169fa53fe10b8d198bd94145faba3df974c80", func := "pandect/pandectlaw13.PagestoreClone", spec := "pagestoreClone", unfollowed := true, recurses := true, apart := false }
def PagestoreCloneSaid : Prop := pagestoreCloneRow.holds Try.pinned (OpenSpec.ofChange pagestoreCloneSpec)

/-- ITS FALSE NEIGHBOUR: 'it returns false'. Refute it at one input. -/
def pagestoreCloneWrong : ChangeSpec := { name := "pagestoreClone", fn := fun _ => fun
  | [d1, d2, d3] => { results := [.lit (.bool false)], args := [d1, d2, d3] }
  | _ => none }
def PagestoreCloneWrongFalsely : Prop := pagestoreCloneRow.holds Try.pinned (OpenSpec.ofChange pagestoreCloneWrong)

/-- 'pandectlaw13.PagestoreImmutable': WHATEVER THE INPUT: true; the input reads as it did. -/
def pagestoreImmutableSpec : ChangeSpec := { name := "pagestoreImmutable", fn := fun _ => fun
  | [d1, d2, d3] => { results := [.lit (.bool true)], args := [d1, d2, d3] }
  | _ => none }
def pagestoreImmutableRow : OpenClaim := { program := "ytmaapgbplbhlfaa", sum := "01d685433a2d357e3f48b545640169fa53fe10b8d198bd94145faba3df974c80", func := "pandect/pandectlaw13.PagestoreImmutable", spec := "pagestoreImmutable", unfollowed := true, recurses := true, apart := false }
def PagestoreImmutableSaid : Prop := pagestoreImmutableRow.holds Try.pinned (OpenSpec.ofChange pagestoreImmutableSpec)

/-- ITS FALSE NEIGHBOUR: 'it returns false'. Refute it at one input. -/
def pagestoreImmutableWrong : ChangeSpec := { name := "pagestoreImmutable", fn := fun _ => fun
  | [d1, d2, d3] => { results := [.lit (.bool false)], args := [d1, d2, d3] }
  | _ => none }
def PagestoreImmutableWrongFalsely : Prop := pagestoreImmutableRow.holds Try.pinned (OpenSpec.ofChange pagestoreImmutableWrong)

/- THE SECOND FORM. 'bulk': how many values and letters a reading holds, each counted each time it is reached (what is shared counts as often as it is met; a slice's spare places count too). A statement '..UptoSaid' is the law's where the arguments, and the package variables that the reading takes, are together of bulk at most 1048576: NARROWER than '..Said'. Prove '..Said' where nothing that the law and all that it calls make is longer than what came in: it says more and counts as full. Else prove '..UptoSaid'. A law counts once. -/
mutual
def uptoBulk {H : Type} : DataW H → Nat
  | .lit (.string bytes) => bytes.length + 1
  | .lit _ => 1
  | .nil => 1
  | .ptr d => uptoBulk d + 1
  | .slice elems spare => uptoBulkAll elems + uptoBulkAll spare + 1
  | .agg parts => uptoBulkAll parts + 1
  | .iface _ d => uptoBulk d + 1
  | .map entries => uptoBulkEntries entries + 1
  | .held _ => 1
def uptoBulkAll {H : Type} : List (DataW H) → Nat
  | [] => 0
  | d :: r => uptoBulk d + uptoBulkAll r
def uptoBulkEntries {H : Type} : List (Lit × DataW H) → Nat
  | [] => 0
  | x :: r => uptoBulkEntry x + uptoBulkEntries r
def uptoBulkEntry {H : Type} : Lit × DataW H → Nat
  | (.string bytes, d) => bytes.length + uptoBulk d + 1
  | (_, d) => uptoBulk d + 1
 end
def uptoSmall : (H : Type) → List (DataW H) → Bool := fun _ ds => decide (uptoBulkAll ds ≤ 1048576)
def OpenSpec.upto (s : _root_.Go.ChangeSpec) : _root_.Go.OpenSpec := { _root_.Go.OpenSpec.ofChange s with cond := some uptoSmall }

/-- 'pandectlaw13.PagestoreModel', WHERE WHAT IT READS IS OF BULK AT MOST 1048576: true; the input reads as it did. -/
def pagestoreModelUptoRow : OpenClaim := { program := "ytmaapgbplbhlfaa", sum := "01d685433a2d357e3f48b545640169fa53fe10b8d198bd94145faba3df974c80", func := "pandect/pandectlaw13.PagestoreModel", spec := "pagestoreModel", unfollowed := true, recurses := true, apart := false, narrowed := true }
def PagestoreModelUptoSaid : Prop := pagestoreModelUptoRow.holds Try.pinned (OpenSpec.upto pagestoreModelSpec)

/-- 'pandectlaw13.PagestoreAtomic', WHERE WHAT IT READS IS OF BULK AT MOST 1048576: true; the input reads as it did. -/
def pagestoreAtomicUptoRow : OpenClaim := { program := "ytmaapgbplbhlfaa", sum := "01d685433a2d357e3f48b545640169fa53fe10b8d198bd94145faba3df974c80", func := "pandect/pandectlaw13.PagestoreAtomic", spec := "pagestoreAtomic", unfollowed := true, recurses := true, apart := false, narrowed := true }
def PagestoreAtomicUptoSaid : Prop := pagestoreAtomicUptoRow.holds Try.pinned (OpenSpec.upto pagestoreAtomicSpec)

/-- 'pandectlaw13.PagestoreFailAfter', WHERE WHAT IT READS IS OF BULK AT MOST 1048576: true; the input reads as it did. -/
def pagestoreFailAfterUptoRow : OpenClaim := { program := "ytmaapgbplbhlfaa", sum := "01d685433a2d357e3f48b545640169fa53fe10b8d198bd94145faba3df974c80", func := "pandect/pandectlaw13.PagestoreFailAfter", spec := "pagestoreFailAfter", unfollowed := true, recurses := true, apart := false, narrowed := true }
def PagestoreFailAfterUptoSaid : Prop := pagestoreFailAfterUptoRow.holds Try.pinned (OpenSpec.upto pagestoreFailAfterSpec)

/-- 'pandectlaw13.PagestoreClone', WHERE WHAT IT READS IS OF BULK AT MOST 1048576: true; the input reads as it did. -/
def pagestoreCloneUptoRow : OpenClaim := { program := "ytmaapgbplbhlfaa", sum := "01d685433a2d357e3f48b545640169fa53fe10b8d198bd94145faba3df974c80", func := "pandect/pandectlaw13.PagestoreClone", spec := "pagestoreClone", unfollowed := true, recurses := true, apart := false, narrowed := true }
def PagestoreCloneUptoSaid : Prop := pagestoreCloneUptoRow.holds Try.pinned (OpenSpec.upto pagestoreCloneSpec)

/-- 'pandectlaw13.PagestoreImmutable', WHERE WHAT IT READS IS OF BULK AT MOST 1048576: true; the input reads as it did. -/
def pagestoreImmutableUptoRow : OpenClaim := { program := "ytmaapgbplbhlfaa", sum := "01d685433a2d357e3f48b545640169fa53fe10b8d198bd94145faba3df974c80", func := "pandect/pandectlaw13.PagestoreImmutable", spec := "pagestoreImmutable", unfollowed := true, recurses := true, apart := false, narrowed := true }
def PagestoreImmutableUptoSaid : Prop := pagestoreImmutableUptoRow.holds Try.pinned (OpenSpec.upto pagestoreImmutableSpec)

end Rows
end Go.Proofs.Ytmaapgbplbhlfaa
