/-
  DERIVED. GIVEN WITH THE SEED: THE CARDS: each row of YtopohipcpomecaaDoorRows.lean that lists a variable, with what it lists TIED to the program's text (the seventh form; the later family's looks); each row that meets fmt, with fmt's text TOLD by the authors' own Lean function (tested against real Go, not proved from fmt's source: count such statements apart). THE CARD IS WHAT COUNTS. Prove the row's statement (the work); the ties are given (YtopohipcpomecaaDoorTie.lean); close each card by the builder's one call (the guide's Derived/Test/ToyasCard.lean, 'card_holds'). Laid BY PROGRAM, IN A SANDBOX (cutbox-door.mjs). By AI agents, Wed Nov 11 2026. No macro, syntax, notation, axiom, sorry.
-/
import Derived.Test.YtopohipcpomecaaDoorRows
import GoSem.ClaimSeven
namespace Go.Proofs.YtopohipcpomecaaDoor
namespace Rows

/-- THE TIED CARD OF 'pandectlaw12.DigestSums'. -/
def digestSumsCard : Claim7 := { stood := { row := digestSumsRow, standIns := [], harness := (true, "0b25a895c61ed7e3a44eb2597c26fee6bf371beef52bc95c9690562e9f6c44d6"), looks := false }, kinds := [], alts := [], laidByText := true, laidKinds := [.data, .data, .data], laidTests := true, laidLooks := .later }
def DigestSumsCardSaid : Prop := Claim7.holds Tryd.pinned (.plain (OpenSpec.ofChange digestSumsSpec)) digestSumsCard

/-- THE TIED CARD OF 'pandectlaw12.DigestTrees'. -/
def digestTreesCard : Claim7 := { stood := { row := digestTreesRow, standIns := [], harness := (true, "0b25a895c61ed7e3a44eb2597c26fee6bf371beef52bc95c9690562e9f6c44d6"), looks := false }, kinds := [], alts := [], laidByText := true, laidKinds := [.data, .data, .data], laidTests := true, laidLooks := .later }
def DigestTreesCardSaid : Prop := Claim7.holds Tryd.pinned (.plain (OpenSpec.ofChange digestTreesSpec)) digestTreesCard

/-- THE TIED CARD OF 'pandectlaw12.DigestIgnoresIds'. -/
def digestIgnoresIdsCard : Claim7 := { stood := { row := digestIgnoresIdsRow, standIns := [], harness := (true, "0b25a895c61ed7e3a44eb2597c26fee6bf371beef52bc95c9690562e9f6c44d6"), looks := false }, kinds := [], alts := [], laidByText := true, laidKinds := [.data, .data, .data], laidTests := true, laidLooks := .later }
def DigestIgnoresIdsCardSaid : Prop := Claim7.holds Tryd.pinned (.plain (OpenSpec.ofChange digestIgnoresIdsSpec)) digestIgnoresIdsCard

/-- THE TIED CARD OF 'pandectlaw12.DigestDiffs'. -/
def digestDiffsCard : Claim7 := { stood := { row := digestDiffsRow, standIns := [], harness := (true, "0b25a895c61ed7e3a44eb2597c26fee6bf371beef52bc95c9690562e9f6c44d6"), looks := false }, kinds := [], alts := [], laidByText := true, laidKinds := [.data, .data, .data], laidTests := true, laidLooks := .later }
def DigestDiffsCardSaid : Prop := Claim7.holds Tryd.pinned (.plain (OpenSpec.ofChange digestDiffsSpec)) digestDiffsCard

/-- THE TIED CARD OF 'pandectlaw12.DigestLocality'. -/
def digestLocalityCard : Claim7 := { stood := { row := digestLocalityRow, standIns := [], harness := (true, "0b25a895c61ed7e3a44eb2597c26fee6bf371beef52bc95c9690562e9f6c44d6"), looks := false }, kinds := [], alts := [], laidByText := true, laidKinds := [.data, .data, .data], laidTests := true, laidLooks := .later }
def DigestLocalityCardSaid : Prop := Claim7.holds Tryd.pinned (.plain (OpenSpec.ofChange digestLocalitySpec)) digestLocalityCard

/-- THE SECOND FORM's CARD OF 'pandectlaw12.DigestSums'. -/
def digestSumsUptoCard : Claim7 := { stood := { row := digestSumsUptoRow, standIns := [], harness := (true, "0b25a895c61ed7e3a44eb2597c26fee6bf371beef52bc95c9690562e9f6c44d6"), looks := false }, kinds := [], alts := [], laidByText := true, laidKinds := [.data, .data, .data], laidTests := true, laidLooks := .later }
def DigestSumsUptoCardSaid : Prop := Claim7.holds Tryd.pinned (.plain (OpenSpec.upto digestSumsSpec)) digestSumsUptoCard

/-- THE SECOND FORM's CARD OF 'pandectlaw12.DigestTrees'. -/
def digestTreesUptoCard : Claim7 := { stood := { row := digestTreesUptoRow, standIns := [], harness := (true, "0b25a895c61ed7e3a44eb2597c26fee6bf371beef52bc95c9690562e9f6c44d6"), looks := false }, kinds := [], alts := [], laidByText := true, laidKinds := [.data, .data, .data], laidTests := true, laidLooks := .later }
def DigestTreesUptoCardSaid : Prop := Claim7.holds Tryd.pinned (.plain (OpenSpec.upto digestTreesSpec)) digestTreesUptoCard

/-- THE SECOND FORM's CARD OF 'pandectlaw12.DigestIgnoresIds'. -/
def digestIgnoresIdsUptoCard : Claim7 := { stood := { row := digestIgnoresIdsUptoRow, standIns := [], harness := (true, "0b25a895c61ed7e3a44eb2597c26fee6bf371beef52bc95c9690562e9f6c44d6"), looks := false }, kinds := [], alts := [], laidByText := true, laidKinds := [.data, .data, .data], laidTests := true, laidLooks := .later }
def DigestIgnoresIdsUptoCardSaid : Prop := Claim7.holds Tryd.pinned (.plain (OpenSpec.upto digestIgnoresIdsSpec)) digestIgnoresIdsUptoCard

/-- THE SECOND FORM's CARD OF 'pandectlaw12.DigestDiffs'. -/
def digestDiffsUptoCard : Claim7 := { stood := { row := digestDiffsUptoRow, standIns := [], harness := (true, "0b25a895c61ed7e3a44eb2597c26fee6bf371beef52bc95c9690562e9f6c44d6"), looks := false }, kinds := [], alts := [], laidByText := true, laidKinds := [.data, .data, .data], laidTests := true, laidLooks := .later }
def DigestDiffsUptoCardSaid : Prop := Claim7.holds Tryd.pinned (.plain (OpenSpec.upto digestDiffsSpec)) digestDiffsUptoCard

/-- THE SECOND FORM's CARD OF 'pandectlaw12.DigestLocality'. -/
def digestLocalityUptoCard : Claim7 := { stood := { row := digestLocalityUptoRow, standIns := [], harness := (true, "0b25a895c61ed7e3a44eb2597c26fee6bf371beef52bc95c9690562e9f6c44d6"), looks := false }, kinds := [], alts := [], laidByText := true, laidKinds := [.data, .data, .data], laidTests := true, laidLooks := .later }
def DigestLocalityUptoCardSaid : Prop := Claim7.holds Tryd.pinned (.plain (OpenSpec.upto digestLocalitySpec)) digestLocalityUptoCard
end Rows
end Go.Proofs.YtopohipcpomecaaDoor
