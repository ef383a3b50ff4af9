/-
  DERIVED. GIVEN WITH THE SEED: THE CARDS: each row of YtjacoodfhkaioabGreatDoorRows.lean that lists a variable, with what it lists TIED to the program's text (the seventh form; the later family's looks); each row that meets fmt, with fmt's text TOLD by the authors' own Lean function (tested against real Go, not proved from fmt's source: count such statements apart). THE CARD IS WHAT COUNTS. Prove the row's statement (the work); the ties are given (YtjacoodfhkaioabGreatDoorTie.lean); close each card by the builder's one call (the guide's Derived/Test/ToyasCard.lean, 'card_holds'). Laid BY PROGRAM, IN A SANDBOX (cutbox-door.mjs). By AI agents, Wed Nov 11 2026. No macro, syntax, notation, axiom, sorry.
-/
import Derived.Test.YtjacoodfhkaioabGreatDoorRows
import GoSem.ClaimSeven
namespace Go.Proofs.YtjacoodfhkaioabGreatDoor
namespace Rows

/-- THE TIED CARD OF 'tenementlaw7.TextRest'. -/
def textRestCard : Claim7 := { stood := { row := textRestRow, standIns := [], harness := (true, "ea5c2a67a72f45086779fcbde8c68d7032f7adbbed6926c7c67221025099b9e3"), looks := true }, kinds := [], alts := [], laidByText := true, laidKinds := [.data, .data, .data, .data, .pinned], laidTests := true, laidLooks := .later }
def TextRestCardSaid : Prop := Claim7.holds Tryz.pinned (.plain (OpenSpec.ofChange textRestSpec)) textRestCard

/-- THE SECOND FORM's CARD OF 'tenementlaw7.TextRest'. -/
def textRestUptoCard : Claim7 := { stood := { row := textRestUptoRow, standIns := [], harness := (true, "ea5c2a67a72f45086779fcbde8c68d7032f7adbbed6926c7c67221025099b9e3"), looks := true }, kinds := [], alts := [], laidByText := true, laidKinds := [.data, .data, .data, .data, .pinned], laidTests := true, laidLooks := .later }
def TextRestUptoCardSaid : Prop := Claim7.holds Tryz.pinned (.plain (OpenSpec.upto textRestSpec)) textRestUptoCard
end Rows
end Go.Proofs.YtjacoodfhkaioabGreatDoor
