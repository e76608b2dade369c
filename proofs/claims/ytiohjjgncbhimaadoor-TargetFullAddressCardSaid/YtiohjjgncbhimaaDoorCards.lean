/-
  DERIVED. GIVEN WITH THE SEED: THE CARDS: each row of YtiohjjgncbhimaaDoorRows.lean that lists a variable, with what it lists TIED to the program's text (the seventh form; the later family's looks); each row that meets fmt, with fmt's text TOLD by the authors' own Lean function (tested against real Go, not proved from fmt's source: count such statements apart). THE CARD IS WHAT COUNTS. Prove the row's statement (the work); the ties are given (YtiohjjgncbhimaaDoorTie.lean); close each card by the builder's one call (the guide's Derived/Test/ToyasCard.lean, 'card_holds'). Laid BY PROGRAM, IN A SANDBOX (cutbox-door.mjs). By AI agents, Wed Nov 11 2026. No macro, syntax, notation, axiom, sorry.
-/
import Derived.Test.YtiohjjgncbhimaaDoorRows
import GoSem.ClaimSeven
namespace Go.Proofs.YtiohjjgncbhimaaDoor
namespace Rows

/-- THE TIED CARD OF 'pandectlaw21.TargetFind'. -/
def targetFindCard : Claim7 := { stood := { row := targetFindRow, standIns := [], harness := (true, "edb824db5ee1f8b839b6b9fa414aea7d7bc5381a368cda32eb8cc9bf7c237185"), looks := false }, kinds := [], alts := [], laidByText := true, laidKinds := [.data, .pinned], laidTests := true, laidLooks := .later }
def TargetFindCardSaid : Prop := Claim7.holds Tryd.pinned (.plain (OpenSpec.ofChange targetFindSpec)) targetFindCard

/-- THE TIED CARD OF 'pandectlaw21.TargetInsertionPoint'. -/
def targetInsertionPointCard : Claim7 := { stood := { row := targetInsertionPointRow, standIns := [], harness := (true, "edb824db5ee1f8b839b6b9fa414aea7d7bc5381a368cda32eb8cc9bf7c237185"), looks := false }, kinds := [], alts := [], laidByText := true, laidKinds := [.data, .pinned], laidTests := true, laidLooks := .later }
def TargetInsertionPointCardSaid : Prop := Claim7.holds Tryd.pinned (.plain (OpenSpec.ofChange targetInsertionPointSpec)) targetInsertionPointCard

/-- THE TIED CARD OF 'pandectlaw21.TargetDestination'. -/
def targetDestinationCard : Claim7 := { stood := { row := targetDestinationRow, standIns := [], harness := (true, "edb824db5ee1f8b839b6b9fa414aea7d7bc5381a368cda32eb8cc9bf7c237185"), looks := false }, kinds := [], alts := [], laidByText := true, laidKinds := [.data, .pinned], laidTests := true, laidLooks := .later }
def TargetDestinationCardSaid : Prop := Claim7.holds Tryd.pinned (.plain (OpenSpec.ofChange targetDestinationSpec)) targetDestinationCard

/-- THE TIED CARD OF 'pandectlaw21.TargetFullAddress'. -/
def targetFullAddressCard : Claim7 := { stood := { row := targetFullAddressRow, standIns := [], harness := (true, "edb824db5ee1f8b839b6b9fa414aea7d7bc5381a368cda32eb8cc9bf7c237185"), looks := false }, kinds := [], alts := [], laidByText := true, laidKinds := [.data, .pinned], laidTests := true, laidLooks := .later }
def TargetFullAddressCardSaid : Prop := Claim7.holds Tryd.pinned (.plain (OpenSpec.ofChange targetFullAddressSpec)) targetFullAddressCard

/-- THE SECOND FORM's CARD OF 'pandectlaw21.TargetFind'. -/
def targetFindUptoCard : Claim7 := { stood := { row := targetFindUptoRow, standIns := [], harness := (true, "edb824db5ee1f8b839b6b9fa414aea7d7bc5381a368cda32eb8cc9bf7c237185"), looks := false }, kinds := [], alts := [], laidByText := true, laidKinds := [.data, .pinned], laidTests := true, laidLooks := .later }
def TargetFindUptoCardSaid : Prop := Claim7.holds Tryd.pinned (.plain (OpenSpec.upto targetFindSpec)) targetFindUptoCard

/-- THE SECOND FORM's CARD OF 'pandectlaw21.TargetInsertionPoint'. -/
def targetInsertionPointUptoCard : Claim7 := { stood := { row := targetInsertionPointUptoRow, standIns := [], harness := (true, "edb824db5ee1f8b839b6b9fa414aea7d7bc5381a368cda32eb8cc9bf7c237185"), looks := false }, kinds := [], alts := [], laidByText := true, laidKinds := [.data, .pinned], laidTests := true, laidLooks := .later }
def TargetInsertionPointUptoCardSaid : Prop := Claim7.holds Tryd.pinned (.plain (OpenSpec.upto targetInsertionPointSpec)) targetInsertionPointUptoCard

/-- THE SECOND FORM's CARD OF 'pandectlaw21.TargetDestination'. -/
def targetDestinationUptoCard : Claim7 := { stood := { row := targetDestinationUptoRow, standIns := [], harness := (true, "edb824db5ee1f8b839b6b9fa414aea7d7bc5381a368cda32eb8cc9bf7c237185"), looks := false }, kinds := [], alts := [], laidByText := true, laidKinds := [.data, .pinned], laidTests := true, laidLooks := .later }
def TargetDestinationUptoCardSaid : Prop := Claim7.holds Tryd.pinned (.plain (OpenSpec.upto targetDestinationSpec)) targetDestinationUptoCard

/-- THE SECOND FORM's CARD OF 'pandectlaw21.TargetFullAddress'. -/
def targetFullAddressUptoCard : Claim7 := { stood := { row := targetFullAddressUptoRow, standIns := [], harness := (true, "edb824db5ee1f8b839b6b9fa414aea7d7bc5381a368cda32eb8cc9bf7c237185"), looks := false }, kinds := [], alts := [], laidByText := true, laidKinds := [.data, .pinned], laidTests := true, laidLooks := .later }
def TargetFullAddressUptoCardSaid : Prop := Claim7.holds Tryd.pinned (.plain (OpenSpec.upto targetFullAddressSpec)) targetFullAddressUptoCard
end Rows
end Go.Proofs.YtiohjjgncbhimaaDoor
