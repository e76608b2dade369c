/-
  DERIVED. GIVEN WITH THE SEED: THE CARDS: each row of YtkjgmnmngbfhhaaDoorRows.lean that lists a variable, with what it lists TIED to the program's text (the seventh form; the later family's looks); each row that meets fmt, with fmt's text TOLD by the authors' own Lean function (tested against real Go, not proved from fmt's source: count such statements apart). THE CARD IS WHAT COUNTS. Prove the row's statement (the work); the ties are given (YtkjgmnmngbfhhaaDoorTie.lean); close each card by the builder's one call (the guide's Derived/Test/ToyasCard.lean, 'card_holds'). Laid BY PROGRAM, IN A SANDBOX (cutbox-door.mjs). By AI agents, Wed Nov 11 2026. No macro, syntax, notation, axiom, sorry.
-/
import Derived.Test.YtkjgmnmngbfhhaaDoorRows
import GoSem.ClaimSeven
namespace Go.Proofs.YtkjgmnmngbfhhaaDoor
namespace Rows

/-- THE TIED CARD OF 'pandectlaw10.FootnoteAnchors'. -/
def footnoteAnchorsCard : Claim7 := { stood := { row := footnoteAnchorsRow, standIns := [], harness := (true, "b9bdcd33686588588e068a022cdcf1d29c78d8c4e5d30619314fe63a18be41b9"), looks := false }, kinds := [], alts := [], laidByText := true, laidKinds := [.data, .data, .data, .data, .pinned], laidTests := true, laidLooks := .later }
def FootnoteAnchorsCardSaid : Prop := Claim7.holds Tryd.pinned (.plain (OpenSpec.ofChange footnoteAnchorsSpec)) footnoteAnchorsCard

/-- THE TIED CARD OF 'pandectlaw10.FootnoteFindings'. -/
def footnoteFindingsCard : Claim7 := { stood := { row := footnoteFindingsRow, standIns := [], harness := (true, "b9bdcd33686588588e068a022cdcf1d29c78d8c4e5d30619314fe63a18be41b9"), looks := false }, kinds := [], alts := [], laidByText := true, laidKinds := [.data, .data, .data, .data, .pinned], laidTests := true, laidLooks := .later }
def FootnoteFindingsCardSaid : Prop := Claim7.holds Tryd.pinned (.plain (OpenSpec.ofChange footnoteFindingsSpec)) footnoteFindingsCard

/-- THE TIED CARD OF 'pandectlaw10.FootnoteRenumbers'. -/
def footnoteRenumbersCard : Claim7 := { stood := { row := footnoteRenumbersRow, standIns := [], harness := (true, "b9bdcd33686588588e068a022cdcf1d29c78d8c4e5d30619314fe63a18be41b9"), looks := false }, kinds := [], alts := [], laidByText := true, laidKinds := [.data, .data, .data, .data, .pinned], laidTests := true, laidLooks := .later }
def FootnoteRenumbersCardSaid : Prop := Claim7.holds Tryd.pinned (.plain (OpenSpec.ofChange footnoteRenumbersSpec)) footnoteRenumbersCard

/-- THE TIED CARD OF 'pandectlaw10.FootnoteIdempotence'. -/
def footnoteIdempotenceCard : Claim7 := { stood := { row := footnoteIdempotenceRow, standIns := [], harness := (true, "b9bdcd33686588588e068a022cdcf1d29c78d8c4e5d30619314fe63a18be41b9"), looks := false }, kinds := [], alts := [], laidByText := true, laidKinds := [.data, .data, .data, .data, .pinned], laidTests := true, laidLooks := .later }
def FootnoteIdempotenceCardSaid : Prop := Claim7.holds Tryd.pinned (.plain (OpenSpec.ofChange footnoteIdempotenceSpec)) footnoteIdempotenceCard

/-- THE TIED CARD OF 'pandectlaw10.FootnotePreservation'. -/
def footnotePreservationCard : Claim7 := { stood := { row := footnotePreservationRow, standIns := [], harness := (true, "b9bdcd33686588588e068a022cdcf1d29c78d8c4e5d30619314fe63a18be41b9"), looks := false }, kinds := [], alts := [], laidByText := true, laidKinds := [.data, .data, .data, .data, .pinned], laidTests := true, laidLooks := .later }
def FootnotePreservationCardSaid : Prop := Claim7.holds Tryd.pinned (.plain (OpenSpec.ofChange footnotePreservationSpec)) footnotePreservationCard

/-- THE TIED CARD OF 'pandectlaw10.FootnoteCorruption'. -/
def footnoteCorruptionCard : Claim7 := { stood := { row := footnoteCorruptionRow, standIns := [], harness := (true, "b9bdcd33686588588e068a022cdcf1d29c78d8c4e5d30619314fe63a18be41b9"), looks := false }, kinds := [], alts := [], laidByText := true, laidKinds := [.data, .data, .data, .data, .pinned], laidTests := true, laidLooks := .later }
def FootnoteCorruptionCardSaid : Prop := Claim7.holds Tryd.pinned (.plain (OpenSpec.ofChange footnoteCorruptionSpec)) footnoteCorruptionCard

/-- THE TIED CARD OF 'pandectlaw10.FootnoteCoverage'. -/
def footnoteCoverageCard : Claim7 := { stood := { row := footnoteCoverageRow, standIns := [], harness := (true, "b9bdcd33686588588e068a022cdcf1d29c78d8c4e5d30619314fe63a18be41b9"), looks := false }, kinds := [], alts := [], laidByText := true, laidKinds := [.data, .data, .data, .data, .pinned], laidTests := true, laidLooks := .later }
def FootnoteCoverageCardSaid : Prop := Claim7.holds Tryd.pinned (.plain (OpenSpec.ofChange footnoteCoverageSpec)) footnoteCoverageCard

/-- THE SECOND FORM's CARD OF 'pandectlaw10.FootnoteAnchors'. -/
def footnoteAnchorsUptoCard : Claim7 := { stood := { row := footnoteAnchorsUptoRow, standIns := [], harness := (true, "b9bdcd33686588588e068a022cdcf1d29c78d8c4e5d30619314fe63a18be41b9"), looks := false }, kinds := [], alts := [], laidByText := true, laidKinds := [.data, .data, .data, .data, .pinned], laidTests := true, laidLooks := .later }
def FootnoteAnchorsUptoCardSaid : Prop := Claim7.holds Tryd.pinned (.plain (OpenSpec.upto footnoteAnchorsSpec)) footnoteAnchorsUptoCard

/-- THE SECOND FORM's CARD OF 'pandectlaw10.FootnoteFindings'. -/
def footnoteFindingsUptoCard : Claim7 := { stood := { row := footnoteFindingsUptoRow, standIns := [], harness := (true, "b9bdcd33686588588e068a022cdcf1d29c78d8c4e5d30619314fe63a18be41b9"), looks := false }, kinds := [], alts := [], laidByText := true, laidKinds := [.data, .data, .data, .data, .pinned], laidTests := true, laidLooks := .later }
def FootnoteFindingsUptoCardSaid : Prop := Claim7.holds Tryd.pinned (.plain (OpenSpec.upto footnoteFindingsSpec)) footnoteFindingsUptoCard

/-- THE SECOND FORM's CARD OF 'pandectlaw10.FootnoteRenumbers'. -/
def footnoteRenumbersUptoCard : Claim7 := { stood := { row := footnoteRenumbersUptoRow, standIns := [], harness := (true, "b9bdcd33686588588e068a022cdcf1d29c78d8c4e5d30619314fe63a18be41b9"), looks := false }, kinds := [], alts := [], laidByText := true, laidKinds := [.data, .data, .data, .data, .pinned], laidTests := true, laidLooks := .later }
def FootnoteRenumbersUptoCardSaid : Prop := Claim7.holds Tryd.pinned (.plain (OpenSpec.upto footnoteRenumbersSpec)) footnoteRenumbersUptoCard

/-- THE SECOND FORM's CARD OF 'pandectlaw10.FootnoteIdempotence'. -/
def footnoteIdempotenceUptoCard : Claim7 := { stood := { row := footnoteIdempotenceUptoRow, standIns := [], harness := (true, "b9bdcd33686588588e068a022cdcf1d29c78d8c4e5d30619314fe63a18be41b9"), looks := false }, kinds := [], alts := [], laidByText := true, laidKinds := [.data, .data, .data, .data, .pinned], laidTests := true, laidLooks := .later }
def FootnoteIdempotenceUptoCardSaid : Prop := Claim7.holds Tryd.pinned (.plain (OpenSpec.upto footnoteIdempotenceSpec)) footnoteIdempotenceUptoCard

/-- THE SECOND FORM's CARD OF 'pandectlaw10.FootnotePreservation'. -/
def footnotePreservationUptoCard : Claim7 := { stood := { row := footnotePreservationUptoRow, standIns := [], harness := (true, "b9bdcd33686588588e068a022cdcf1d29c78d8c4e5d30619314fe63a18be41b9"), looks := false }, kinds := [], alts := [], laidByText := true, laidKinds := [.data, .data, .data, .data, .pinned], laidTests := true, laidLooks := .later }
def FootnotePreservationUptoCardSaid : Prop := Claim7.holds Tryd.pinned (.plain (OpenSpec.upto footnotePreservationSpec)) footnotePreservationUptoCard

/-- THE SECOND FORM's CARD OF 'pandectlaw10.FootnoteCorruption'. -/
def footnoteCorruptionUptoCard : Claim7 := { stood := { row := footnoteCorruptionUptoRow, standIns := [], harness := (true, "b9bdcd33686588588e068a022cdcf1d29c78d8c4e5d30619314fe63a18be41b9"), looks := false }, kinds := [], alts := [], laidByText := true, laidKinds := [.data, .data, .data, .data, .pinned], laidTests := true, laidLooks := .later }
def FootnoteCorruptionUptoCardSaid : Prop := Claim7.holds Tryd.pinned (.plain (OpenSpec.upto footnoteCorruptionSpec)) footnoteCorruptionUptoCard

/-- THE SECOND FORM's CARD OF 'pandectlaw10.FootnoteCoverage'. -/
def footnoteCoverageUptoCard : Claim7 := { stood := { row := footnoteCoverageUptoRow, standIns := [], harness := (true, "b9bdcd33686588588e068a022cdcf1d29c78d8c4e5d30619314fe63a18be41b9"), looks := false }, kinds := [], alts := [], laidByText := true, laidKinds := [.data, .data, .data, .data, .pinned], laidTests := true, laidLooks := .later }
def FootnoteCoverageUptoCardSaid : Prop := Claim7.holds Tryd.pinned (.plain (OpenSpec.upto footnoteCoverageSpec)) footnoteCoverageUptoCard
end Rows
end Go.Proofs.YtkjgmnmngbfhhaaDoor
