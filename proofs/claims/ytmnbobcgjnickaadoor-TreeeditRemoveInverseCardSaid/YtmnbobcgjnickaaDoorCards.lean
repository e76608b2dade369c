/-
  DERIVED. GIVEN WITH THE SEED: THE CARDS: each row of YtmnbobcgjnickaaDoorRows.lean that lists a variable, with what it lists TIED to the program's text (the seventh form; the later family's looks); each row that meets fmt, with fmt's text TOLD by the authors' own Lean function (tested against real Go, not proved from fmt's source: count such statements apart). THE CARD IS WHAT COUNTS. Prove the row's statement (the work); the ties are given (YtmnbobcgjnickaaDoorTie.lean); close each card by the builder's one call (the guide's Derived/Test/ToyasCard.lean, 'card_holds'). Laid BY PROGRAM, IN A SANDBOX (cutbox-door.mjs). By AI agents, Wed Nov 11 2026. No macro, syntax, notation, axiom, sorry.
-/
import Derived.Test.YtmnbobcgjnickaaDoorRows
import GoSem.ClaimSeven
namespace Go.Proofs.YtmnbobcgjnickaaDoor
namespace Rows

/-- THE TIED CARD OF 'pandectlaw08.TreeeditRemoves'. -/
def treeeditRemovesCard : Claim7 := { stood := { row := treeeditRemovesRow, standIns := [], harness := (true, "33a780615181944b91232206a4ade1ba68f0fd75ec7d0c5b70989da2439b0606"), looks := false }, kinds := [], alts := [], laidByText := true, laidKinds := [.data, .widerDeep, .pinned], laidTests := true, laidLooks := .later }
def TreeeditRemovesCardSaid : Prop := Claim7.holds Tryd.pinned (.plain (OpenSpec.ofChange treeeditRemovesSpec)) treeeditRemovesCard

/-- THE TIED CARD OF 'pandectlaw08.TreeeditRemoveInverse'. -/
def treeeditRemoveInverseCard : Claim7 := { stood := { row := treeeditRemoveInverseRow, standIns := [], harness := (true, "33a780615181944b91232206a4ade1ba68f0fd75ec7d0c5b70989da2439b0606"), looks := false }, kinds := [], alts := [], laidByText := true, laidKinds := [.data, .widerDeep, .pinned], laidTests := true, laidLooks := .later }
def TreeeditRemoveInverseCardSaid : Prop := Claim7.holds Tryd.pinned (.plain (OpenSpec.ofChange treeeditRemoveInverseSpec)) treeeditRemoveInverseCard

/-- THE TIED CARD OF 'pandectlaw08.TreeeditMoveInverse'. -/
def treeeditMoveInverseCard : Claim7 := { stood := { row := treeeditMoveInverseRow, standIns := [], harness := (true, "33a780615181944b91232206a4ade1ba68f0fd75ec7d0c5b70989da2439b0606"), looks := false }, kinds := [], alts := [], laidByText := true, laidKinds := [.data, .widerDeep, .pinned], laidTests := true, laidLooks := .later }
def TreeeditMoveInverseCardSaid : Prop := Claim7.holds Tryd.pinned (.plain (OpenSpec.ofChange treeeditMoveInverseSpec)) treeeditMoveInverseCard

/-- THE SECOND FORM's CARD OF 'pandectlaw08.TreeeditRemoves'. -/
def treeeditRemovesUptoCard : Claim7 := { stood := { row := treeeditRemovesUptoRow, standIns := [], harness := (true, "33a780615181944b91232206a4ade1ba68f0fd75ec7d0c5b70989da2439b0606"), looks := false }, kinds := [], alts := [], laidByText := true, laidKinds := [.data, .widerDeep, .pinned], laidTests := true, laidLooks := .later }
def TreeeditRemovesUptoCardSaid : Prop := Claim7.holds Tryd.pinned (.plain (OpenSpec.upto treeeditRemovesSpec)) treeeditRemovesUptoCard

/-- THE SECOND FORM's CARD OF 'pandectlaw08.TreeeditRemoveInverse'. -/
def treeeditRemoveInverseUptoCard : Claim7 := { stood := { row := treeeditRemoveInverseUptoRow, standIns := [], harness := (true, "33a780615181944b91232206a4ade1ba68f0fd75ec7d0c5b70989da2439b0606"), looks := false }, kinds := [], alts := [], laidByText := true, laidKinds := [.data, .widerDeep, .pinned], laidTests := true, laidLooks := .later }
def TreeeditRemoveInverseUptoCardSaid : Prop := Claim7.holds Tryd.pinned (.plain (OpenSpec.upto treeeditRemoveInverseSpec)) treeeditRemoveInverseUptoCard

/-- THE SECOND FORM's CARD OF 'pandectlaw08.TreeeditMoveInverse'. -/
def treeeditMoveInverseUptoCard : Claim7 := { stood := { row := treeeditMoveInverseUptoRow, standIns := [], harness := (true, "33a780615181944b91232206a4ade1ba68f0fd75ec7d0c5b70989da2439b0606"), looks := false }, kinds := [], alts := [], laidByText := true, laidKinds := [.data, .widerDeep, .pinned], laidTests := true, laidLooks := .later }
def TreeeditMoveInverseUptoCardSaid : Prop := Claim7.holds Tryd.pinned (.plain (OpenSpec.upto treeeditMoveInverseSpec)) treeeditMoveInverseUptoCard
end Rows
end Go.Proofs.YtmnbobcgjnickaaDoor
