/-
  DERIVED. GIVEN WITH THE SEED: THE CARDS: each row of YtcacnelhppakoaaDoorRows.lean that lists a variable, with what it lists TIED to the program's text (the seventh form; the later family's looks); each row that meets fmt, with fmt's text TOLD by the authors' own Lean function (tested against real Go, not proved from fmt's source: count such statements apart). THE CARD IS WHAT COUNTS. Prove the row's statement (the work); the ties are given (YtcacnelhppakoaaDoorTie.lean); close each card by the builder's one call (the guide's Derived/Test/ToyasCard.lean, 'card_holds'). Laid BY PROGRAM, IN A SANDBOX (cutbox-door.mjs). By AI agents, Wed Nov 11 2026. No macro, syntax, notation, axiom, sorry.
-/
import Derived.Test.YtcacnelhppakoaaDoorRows
import GoSem.ClaimSeven
namespace Go.Proofs.YtcacnelhppakoaaDoor
namespace Rows

/-- THE TIED CARD OF 'pandectlaw06.UnitValidity'. -/
def unitValidityCard : Claim7 := { stood := { row := unitValidityRow, standIns := [], harness := (true, "99f11ce5b35d7db56e2eaac5600539dd93d13d266a65242173ba2b7e98802eb4"), looks := false }, kinds := [], alts := [], laidByText := true, laidKinds := [.data, .data, .widerDeep, .pinned], laidTests := true, laidLooks := .later }
def UnitValidityCardSaid : Prop := Claim7.holds Tryd.pinned (.plain (OpenSpec.ofChange unitValiditySpec)) unitValidityCard

/-- THE TIED CARD OF 'pandectlaw06.UnitLookup'. -/
def unitLookupCard : Claim7 := { stood := { row := unitLookupRow, standIns := [], harness := (true, "99f11ce5b35d7db56e2eaac5600539dd93d13d266a65242173ba2b7e98802eb4"), looks := false }, kinds := [], alts := [], laidByText := true, laidKinds := [.data, .data, .widerDeep, .pinned], laidTests := true, laidLooks := .later }
def UnitLookupCardSaid : Prop := Claim7.holds Tryd.pinned (.plain (OpenSpec.ofChange unitLookupSpec)) unitLookupCard

/-- THE TIED CARD OF 'pandectlaw06.UnitEquality'. -/
def unitEqualityCard : Claim7 := { stood := { row := unitEqualityRow, standIns := [], harness := (true, "99f11ce5b35d7db56e2eaac5600539dd93d13d266a65242173ba2b7e98802eb4"), looks := false }, kinds := [], alts := [], laidByText := true, laidKinds := [.data, .data, .widerDeep, .pinned], laidTests := true, laidLooks := .later }
def UnitEqualityCardSaid : Prop := Claim7.holds Tryd.pinned (.plain (OpenSpec.ofChange unitEqualitySpec)) unitEqualityCard

/-- THE TIED CARD OF 'pandectlaw06.UnitPaths'. -/
def unitPathsCard : Claim7 := { stood := { row := unitPathsRow, standIns := [], harness := (true, "99f11ce5b35d7db56e2eaac5600539dd93d13d266a65242173ba2b7e98802eb4"), looks := false }, kinds := [], alts := [], laidByText := true, laidKinds := [.data, .data, .widerDeep, .pinned], laidTests := true, laidLooks := .later }
def UnitPathsCardSaid : Prop := Claim7.holds Tryd.pinned (.plain (OpenSpec.ofChange unitPathsSpec)) unitPathsCard

/-- THE TIED CARD OF 'pandectlaw06.UnitCorruption'. -/
def unitCorruptionCard : Claim7 := { stood := { row := unitCorruptionRow, standIns := [], harness := (true, "99f11ce5b35d7db56e2eaac5600539dd93d13d266a65242173ba2b7e98802eb4"), looks := false }, kinds := [], alts := [], laidByText := true, laidKinds := [.data, .data, .widerDeep, .pinned], laidTests := true, laidLooks := .later }
def UnitCorruptionCardSaid : Prop := Claim7.holds Tryd.pinned (.plain (OpenSpec.ofChange unitCorruptionSpec)) unitCorruptionCard

/-- THE TIED CARD OF 'pandectlaw06.UnitLimits'. -/
def unitLimitsCard : Claim7 := { stood := { row := unitLimitsRow, standIns := [], harness := (true, "99f11ce5b35d7db56e2eaac5600539dd93d13d266a65242173ba2b7e98802eb4"), looks := false }, kinds := [], alts := [], laidByText := true, laidKinds := [.data, .data, .widerDeep, .pinned], laidTests := true, laidLooks := .later }
def UnitLimitsCardSaid : Prop := Claim7.holds Tryd.pinned (.plain (OpenSpec.ofChange unitLimitsSpec)) unitLimitsCard

/-- THE TIED CARD OF 'pandectlaw07.AddressFormat'. -/
def addressFormatCard : Claim7 := { stood := { row := addressFormatRow, standIns := [], harness := (true, "99f11ce5b35d7db56e2eaac5600539dd93d13d266a65242173ba2b7e98802eb4"), looks := false }, kinds := [], alts := [], laidByText := true, laidKinds := [.data, .listed, .data, .data, .pinned], laidTests := true, laidLooks := .later }
def AddressFormatCardSaid : Prop := Claim7.holds Tryd.pinned (.plain (OpenSpec.ofChange addressFormatSpec)) addressFormatCard

/-- THE TIED CARD OF 'pandectlaw07.AddressParse'. -/
def addressParseCard : Claim7 := { stood := { row := addressParseRow, standIns := [], harness := (true, "99f11ce5b35d7db56e2eaac5600539dd93d13d266a65242173ba2b7e98802eb4"), looks := false }, kinds := [], alts := [], laidByText := true, laidKinds := [.data, .listed, .data, .data, .pinned], laidTests := true, laidLooks := .later }
def AddressParseCardSaid : Prop := Claim7.holds Tryd.pinned (.plain (OpenSpec.ofChange addressParseSpec)) addressParseCard

/-- THE TIED CARD OF 'pandectlaw07.AddressFind'. -/
def addressFindCard : Claim7 := { stood := { row := addressFindRow, standIns := [], harness := (true, "99f11ce5b35d7db56e2eaac5600539dd93d13d266a65242173ba2b7e98802eb4"), looks := false }, kinds := [], alts := [], laidByText := true, laidKinds := [.data, .data, .pinned], laidTests := true, laidLooks := .later }
def AddressFindCardSaid : Prop := Claim7.holds Tryd.pinned (.plain (OpenSpec.ofChange addressFindSpec)) addressFindCard

/-- THE TIED CARD OF 'pandectlaw07.AddressUnique'. -/
def addressUniqueCard : Claim7 := { stood := { row := addressUniqueRow, standIns := [], harness := (true, "99f11ce5b35d7db56e2eaac5600539dd93d13d266a65242173ba2b7e98802eb4"), looks := false }, kinds := [], alts := [], laidByText := true, laidKinds := [.data, .data, .widerDeep, .pinned], laidTests := true, laidLooks := .later }
def AddressUniqueCardSaid : Prop := Claim7.holds Tryd.pinned (.plain (OpenSpec.ofChange addressUniqueSpec)) addressUniqueCard

/-- THE TIED CARD OF 'pandectlaw07.AddressExtend'. -/
def addressExtendCard : Claim7 := { stood := { row := addressExtendRow, standIns := [], harness := (true, "99f11ce5b35d7db56e2eaac5600539dd93d13d266a65242173ba2b7e98802eb4"), looks := false }, kinds := [], alts := [], laidByText := true, laidKinds := [.data, .data, .widerDeep, .pinned], laidTests := true, laidLooks := .later }
def AddressExtendCardSaid : Prop := Claim7.holds Tryd.pinned (.plain (OpenSpec.ofChange addressExtendSpec)) addressExtendCard

/-- THE TIED CARD OF 'pandectlaw08.TreeeditRemoves'. -/
def treeeditRemovesCard : Claim7 := { stood := { row := treeeditRemovesRow, standIns := [], harness := (true, "99f11ce5b35d7db56e2eaac5600539dd93d13d266a65242173ba2b7e98802eb4"), looks := false }, kinds := [], alts := [], laidByText := true, laidKinds := [.data, .widerDeep, .pinned], laidTests := true, laidLooks := .later }
def TreeeditRemovesCardSaid : Prop := Claim7.holds Tryd.pinned (.plain (OpenSpec.ofChange treeeditRemovesSpec)) treeeditRemovesCard

/-- THE TIED CARD OF 'pandectlaw08.TreeeditRemoveInverse'. -/
def treeeditRemoveInverseCard : Claim7 := { stood := { row := treeeditRemoveInverseRow, standIns := [], harness := (true, "99f11ce5b35d7db56e2eaac5600539dd93d13d266a65242173ba2b7e98802eb4"), looks := false }, kinds := [], alts := [], laidByText := true, laidKinds := [.data, .widerDeep, .pinned], laidTests := true, laidLooks := .later }
def TreeeditRemoveInverseCardSaid : Prop := Claim7.holds Tryd.pinned (.plain (OpenSpec.ofChange treeeditRemoveInverseSpec)) treeeditRemoveInverseCard

/-- THE TIED CARD OF 'pandectlaw08.TreeeditMoveInverse'. -/
def treeeditMoveInverseCard : Claim7 := { stood := { row := treeeditMoveInverseRow, standIns := [], harness := (true, "99f11ce5b35d7db56e2eaac5600539dd93d13d266a65242173ba2b7e98802eb4"), looks := false }, kinds := [], alts := [], laidByText := true, laidKinds := [.data, .widerDeep, .pinned], laidTests := true, laidLooks := .later }
def TreeeditMoveInverseCardSaid : Prop := Claim7.holds Tryd.pinned (.plain (OpenSpec.ofChange treeeditMoveInverseSpec)) treeeditMoveInverseCard

/-- THE SECOND FORM's CARD OF 'pandectlaw06.UnitValidity'. -/
def unitValidityUptoCard : Claim7 := { stood := { row := unitValidityUptoRow, standIns := [], harness := (true, "99f11ce5b35d7db56e2eaac5600539dd93d13d266a65242173ba2b7e98802eb4"), looks := false }, kinds := [], alts := [], laidByText := true, laidKinds := [.data, .data, .widerDeep, .pinned], laidTests := true, laidLooks := .later }
def UnitValidityUptoCardSaid : Prop := Claim7.holds Tryd.pinned (.plain (OpenSpec.upto unitValiditySpec)) unitValidityUptoCard

/-- THE SECOND FORM's CARD OF 'pandectlaw06.UnitLookup'. -/
def unitLookupUptoCard : Claim7 := { stood := { row := unitLookupUptoRow, standIns := [], harness := (true, "99f11ce5b35d7db56e2eaac5600539dd93d13d266a65242173ba2b7e98802eb4"), looks := false }, kinds := [], alts := [], laidByText := true, laidKinds := [.data, .data, .widerDeep, .pinned], laidTests := true, laidLooks := .later }
def UnitLookupUptoCardSaid : Prop := Claim7.holds Tryd.pinned (.plain (OpenSpec.upto unitLookupSpec)) unitLookupUptoCard

/-- THE SECOND FORM's CARD OF 'pandectlaw06.UnitEquality'. -/
def unitEqualityUptoCard : Claim7 := { stood := { row := unitEqualityUptoRow, standIns := [], harness := (true, "99f11ce5b35d7db56e2eaac5600539dd93d13d266a65242173ba2b7e98802eb4"), looks := false }, kinds := [], alts := [], laidByText := true, laidKinds := [.data, .data, .widerDeep, .pinned], laidTests := true, laidLooks := .later }
def UnitEqualityUptoCardSaid : Prop := Claim7.holds Tryd.pinned (.plain (OpenSpec.upto unitEqualitySpec)) unitEqualityUptoCard

/-- THE SECOND FORM's CARD OF 'pandectlaw06.UnitPaths'. -/
def unitPathsUptoCard : Claim7 := { stood := { row := unitPathsUptoRow, standIns := [], harness := (true, "99f11ce5b35d7db56e2eaac5600539dd93d13d266a65242173ba2b7e98802eb4"), looks := false }, kinds := [], alts := [], laidByText := true, laidKinds := [.data, .data, .widerDeep, .pinned], laidTests := true, laidLooks := .later }
def UnitPathsUptoCardSaid : Prop := Claim7.holds Tryd.pinned (.plain (OpenSpec.upto unitPathsSpec)) unitPathsUptoCard

/-- THE SECOND FORM's CARD OF 'pandectlaw06.UnitCorruption'. -/
def unitCorruptionUptoCard : Claim7 := { stood := { row := unitCorruptionUptoRow, standIns := [], harness := (true, "99f11ce5b35d7db56e2eaac5600539dd93d13d266a65242173ba2b7e98802eb4"), looks := false }, kinds := [], alts := [], laidByText := true, laidKinds := [.data, .data, .widerDeep, .pinned], laidTests := true, laidLooks := .later }
def UnitCorruptionUptoCardSaid : Prop := Claim7.holds Tryd.pinned (.plain (OpenSpec.upto unitCorruptionSpec)) unitCorruptionUptoCard

/-- THE SECOND FORM's CARD OF 'pandectlaw06.UnitLimits'. -/
def unitLimitsUptoCard : Claim7 := { stood := { row := unitLimitsUptoRow, standIns := [], harness := (true, "99f11ce5b35d7db56e2eaac5600539dd93d13d266a65242173ba2b7e98802eb4"), looks := false }, kinds := [], alts := [], laidByText := true, laidKinds := [.data, .data, .widerDeep, .pinned], laidTests := true, laidLooks := .later }
def UnitLimitsUptoCardSaid : Prop := Claim7.holds Tryd.pinned (.plain (OpenSpec.upto unitLimitsSpec)) unitLimitsUptoCard

/-- THE SECOND FORM's CARD OF 'pandectlaw07.AddressFormat'. -/
def addressFormatUptoCard : Claim7 := { stood := { row := addressFormatUptoRow, standIns := [], harness := (true, "99f11ce5b35d7db56e2eaac5600539dd93d13d266a65242173ba2b7e98802eb4"), looks := false }, kinds := [], alts := [], laidByText := true, laidKinds := [.data, .listed, .data, .data, .pinned], laidTests := true, laidLooks := .later }
def AddressFormatUptoCardSaid : Prop := Claim7.holds Tryd.pinned (.plain (OpenSpec.upto addressFormatSpec)) addressFormatUptoCard

/-- THE SECOND FORM's CARD OF 'pandectlaw07.AddressParse'. -/
def addressParseUptoCard : Claim7 := { stood := { row := addressParseUptoRow, standIns := [], harness := (true, "99f11ce5b35d7db56e2eaac5600539dd93d13d266a65242173ba2b7e98802eb4"), looks := false }, kinds := [], alts := [], laidByText := true, laidKinds := [.data, .listed, .data, .data, .pinned], laidTests := true, laidLooks := .later }
def AddressParseUptoCardSaid : Prop := Claim7.holds Tryd.pinned (.plain (OpenSpec.upto addressParseSpec)) addressParseUptoCard

/-- THE SECOND FORM's CARD OF 'pandectlaw07.AddressFind'. -/
def addressFindUptoCard : Claim7 := { stood := { row := addressFindUptoRow, standIns := [], harness := (true, "99f11ce5b35d7db56e2eaac5600539dd93d13d266a65242173ba2b7e98802eb4"), looks := false }, kinds := [], alts := [], laidByText := true, laidKinds := [.data, .data, .pinned], laidTests := true, laidLooks := .later }
def AddressFindUptoCardSaid : Prop := Claim7.holds Tryd.pinned (.plain (OpenSpec.upto addressFindSpec)) addressFindUptoCard

/-- THE SECOND FORM's CARD OF 'pandectlaw07.AddressUnique'. -/
def addressUniqueUptoCard : Claim7 := { stood := { row := addressUniqueUptoRow, standIns := [], harness := (true, "99f11ce5b35d7db56e2eaac5600539dd93d13d266a65242173ba2b7e98802eb4"), looks := false }, kinds := [], alts := [], laidByText := true, laidKinds := [.data, .data, .widerDeep, .pinned], laidTests := true, laidLooks := .later }
def AddressUniqueUptoCardSaid : Prop := Claim7.holds Tryd.pinned (.plain (OpenSpec.upto addressUniqueSpec)) addressUniqueUptoCard

/-- THE SECOND FORM's CARD OF 'pandectlaw07.AddressExtend'. -/
def addressExtendUptoCard : Claim7 := { stood := { row := addressExtendUptoRow, standIns := [], harness := (true, "99f11ce5b35d7db56e2eaac5600539dd93d13d266a65242173ba2b7e98802eb4"), looks := false }, kinds := [], alts := [], laidByText := true, laidKinds := [.data, .data, .widerDeep, .pinned], laidTests := true, laidLooks := .later }
def AddressExtendUptoCardSaid : Prop := Claim7.holds Tryd.pinned (.plain (OpenSpec.upto addressExtendSpec)) addressExtendUptoCard

/-- THE SECOND FORM's CARD OF 'pandectlaw08.TreeeditRemoves'. -/
def treeeditRemovesUptoCard : Claim7 := { stood := { row := treeeditRemovesUptoRow, standIns := [], harness := (true, "99f11ce5b35d7db56e2eaac5600539dd93d13d266a65242173ba2b7e98802eb4"), looks := false }, kinds := [], alts := [], laidByText := true, laidKinds := [.data, .widerDeep, .pinned], laidTests := true, laidLooks := .later }
def TreeeditRemovesUptoCardSaid : Prop := Claim7.holds Tryd.pinned (.plain (OpenSpec.upto treeeditRemovesSpec)) treeeditRemovesUptoCard

/-- THE SECOND FORM's CARD OF 'pandectlaw08.TreeeditRemoveInverse'. -/
def treeeditRemoveInverseUptoCard : Claim7 := { stood := { row := treeeditRemoveInverseUptoRow, standIns := [], harness := (true, "99f11ce5b35d7db56e2eaac5600539dd93d13d266a65242173ba2b7e98802eb4"), looks := false }, kinds := [], alts := [], laidByText := true, laidKinds := [.data, .widerDeep, .pinned], laidTests := true, laidLooks := .later }
def TreeeditRemoveInverseUptoCardSaid : Prop := Claim7.holds Tryd.pinned (.plain (OpenSpec.upto treeeditRemoveInverseSpec)) treeeditRemoveInverseUptoCard

/-- THE SECOND FORM's CARD OF 'pandectlaw08.TreeeditMoveInverse'. -/
def treeeditMoveInverseUptoCard : Claim7 := { stood := { row := treeeditMoveInverseUptoRow, standIns := [], harness := (true, "99f11ce5b35d7db56e2eaac5600539dd93d13d266a65242173ba2b7e98802eb4"), looks := false }, kinds := [], alts := [], laidByText := true, laidKinds := [.data, .widerDeep, .pinned], laidTests := true, laidLooks := .later }
def TreeeditMoveInverseUptoCardSaid : Prop := Claim7.holds Tryd.pinned (.plain (OpenSpec.upto treeeditMoveInverseSpec)) treeeditMoveInverseUptoCard
end Rows
end Go.Proofs.YtcacnelhppakoaaDoor
