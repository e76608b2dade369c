/-
  DERIVED. GIVEN WITH THE SEED: THE CARDS: each row of YtmnbobcgjnickaaGreatDoorRows.lean that lists a variable, with what it lists TIED to the program's text (the seventh form; the later family's looks); each row that meets fmt, with fmt's text TOLD by the authors' own Lean function (tested against real Go, not proved from fmt's source: count such statements apart). THE CARD IS WHAT COUNTS. Prove the row's statement (the work); the ties are given (YtmnbobcgjnickaaGreatDoorTie.lean); close each card by the builder's one call (the guide's Derived/Test/ToyasCard.lean, 'card_holds'). Laid BY PROGRAM, IN A SANDBOX (cutbox-door.mjs). By AI agents, Wed Nov 11 2026. No macro, syntax, notation, axiom, sorry.
-/
import Derived.Test.YtmnbobcgjnickaaGreatDoorRows
import GoSem.ClaimSeven
namespace Go.Proofs.YtmnbobcgjnickaaGreatDoor
namespace Rows

/-- THE TIED CARD OF 'pandectlaw08.TreeeditInserts'. -/
def treeeditInsertsCard : Claim7 := { stood := { row := treeeditInsertsRow, standIns := [], harness := (true, "edc43ead45a7ff95c0c3dae61a5f0348e043e39b1da5ae696a8273f1bf92a0c2"), looks := false }, kinds := [], alts := [], laidByText := true, laidKinds := [.data, .widerDeep, .pinned], laidTests := true, laidLooks := .later }
def TreeeditInsertsCardSaid : Prop := Claim7.holds Tryz.pinned (.plain (OpenSpec.ofChange treeeditInsertsSpec)) treeeditInsertsCard

/-- THE TIED CARD OF 'pandectlaw08.TreeeditMoves'. -/
def treeeditMovesCard : Claim7 := { stood := { row := treeeditMovesRow, standIns := [], harness := (true, "edc43ead45a7ff95c0c3dae61a5f0348e043e39b1da5ae696a8273f1bf92a0c2"), looks := false }, kinds := [], alts := [], laidByText := true, laidKinds := [.data, .widerDeep, .pinned], laidTests := true, laidLooks := .later }
def TreeeditMovesCardSaid : Prop := Claim7.holds Tryz.pinned (.plain (OpenSpec.ofChange treeeditMovesSpec)) treeeditMovesCard

/-- THE TIED CARD OF 'pandectlaw08.TreeeditRelabels'. -/
def treeeditRelabelsCard : Claim7 := { stood := { row := treeeditRelabelsRow, standIns := [], harness := (true, "edc43ead45a7ff95c0c3dae61a5f0348e043e39b1da5ae696a8273f1bf92a0c2"), looks := false }, kinds := [], alts := [], laidByText := true, laidKinds := [.data, .widerDeep, .pinned], laidTests := true, laidLooks := .later }
def TreeeditRelabelsCardSaid : Prop := Claim7.holds Tryz.pinned (.plain (OpenSpec.ofChange treeeditRelabelsSpec)) treeeditRelabelsCard

/-- THE TIED CARD OF 'pandectlaw08.TreeeditSetsWords'. -/
def treeeditSetsWordsCard : Claim7 := { stood := { row := treeeditSetsWordsRow, standIns := [], harness := (true, "edc43ead45a7ff95c0c3dae61a5f0348e043e39b1da5ae696a8273f1bf92a0c2"), looks := false }, kinds := [], alts := [], laidByText := true, laidKinds := [.data, .widerDeep, .pinned], laidTests := true, laidLooks := .later }
def TreeeditSetsWordsCardSaid : Prop := Claim7.holds Tryz.pinned (.plain (OpenSpec.ofChange treeeditSetsWordsSpec)) treeeditSetsWordsCard

/-- THE TIED CARD OF 'pandectlaw08.TreeeditLeavesRest'. -/
def treeeditLeavesRestCard : Claim7 := { stood := { row := treeeditLeavesRestRow, standIns := [], harness := (true, "edc43ead45a7ff95c0c3dae61a5f0348e043e39b1da5ae696a8273f1bf92a0c2"), looks := false }, kinds := [], alts := [], laidByText := true, laidKinds := [.data, .widerDeep, .pinned], laidTests := true, laidLooks := .later }
def TreeeditLeavesRestCardSaid : Prop := Claim7.holds Tryz.pinned (.plain (OpenSpec.ofChange treeeditLeavesRestSpec)) treeeditLeavesRestCard

/-- THE SECOND FORM's CARD OF 'pandectlaw08.TreeeditInserts'. -/
def treeeditInsertsUptoCard : Claim7 := { stood := { row := treeeditInsertsUptoRow, standIns := [], harness := (true, "edc43ead45a7ff95c0c3dae61a5f0348e043e39b1da5ae696a8273f1bf92a0c2"), looks := false }, kinds := [], alts := [], laidByText := true, laidKinds := [.data, .widerDeep, .pinned], laidTests := true, laidLooks := .later }
def TreeeditInsertsUptoCardSaid : Prop := Claim7.holds Tryz.pinned (.plain (OpenSpec.upto treeeditInsertsSpec)) treeeditInsertsUptoCard

/-- THE SECOND FORM's CARD OF 'pandectlaw08.TreeeditMoves'. -/
def treeeditMovesUptoCard : Claim7 := { stood := { row := treeeditMovesUptoRow, standIns := [], harness := (true, "edc43ead45a7ff95c0c3dae61a5f0348e043e39b1da5ae696a8273f1bf92a0c2"), looks := false }, kinds := [], alts := [], laidByText := true, laidKinds := [.data, .widerDeep, .pinned], laidTests := true, laidLooks := .later }
def TreeeditMovesUptoCardSaid : Prop := Claim7.holds Tryz.pinned (.plain (OpenSpec.upto treeeditMovesSpec)) treeeditMovesUptoCard

/-- THE SECOND FORM's CARD OF 'pandectlaw08.TreeeditRelabels'. -/
def treeeditRelabelsUptoCard : Claim7 := { stood := { row := treeeditRelabelsUptoRow, standIns := [], harness := (true, "edc43ead45a7ff95c0c3dae61a5f0348e043e39b1da5ae696a8273f1bf92a0c2"), looks := false }, kinds := [], alts := [], laidByText := true, laidKinds := [.data, .widerDeep, .pinned], laidTests := true, laidLooks := .later }
def TreeeditRelabelsUptoCardSaid : Prop := Claim7.holds Tryz.pinned (.plain (OpenSpec.upto treeeditRelabelsSpec)) treeeditRelabelsUptoCard

/-- THE SECOND FORM's CARD OF 'pandectlaw08.TreeeditSetsWords'. -/
def treeeditSetsWordsUptoCard : Claim7 := { stood := { row := treeeditSetsWordsUptoRow, standIns := [], harness := (true, "edc43ead45a7ff95c0c3dae61a5f0348e043e39b1da5ae696a8273f1bf92a0c2"), looks := false }, kinds := [], alts := [], laidByText := true, laidKinds := [.data, .widerDeep, .pinned], laidTests := true, laidLooks := .later }
def TreeeditSetsWordsUptoCardSaid : Prop := Claim7.holds Tryz.pinned (.plain (OpenSpec.upto treeeditSetsWordsSpec)) treeeditSetsWordsUptoCard

/-- THE SECOND FORM's CARD OF 'pandectlaw08.TreeeditLeavesRest'. -/
def treeeditLeavesRestUptoCard : Claim7 := { stood := { row := treeeditLeavesRestUptoRow, standIns := [], harness := (true, "edc43ead45a7ff95c0c3dae61a5f0348e043e39b1da5ae696a8273f1bf92a0c2"), looks := false }, kinds := [], alts := [], laidByText := true, laidKinds := [.data, .widerDeep, .pinned], laidTests := true, laidLooks := .later }
def TreeeditLeavesRestUptoCardSaid : Prop := Claim7.holds Tryz.pinned (.plain (OpenSpec.upto treeeditLeavesRestSpec)) treeeditLeavesRestUptoCard
end Rows
end Go.Proofs.YtmnbobcgjnickaaGreatDoor
