/-
  DERIVED. GIVEN WITH THE SEED: THE CARDS: each row of YthlannjipbohkaaGreatDoorRows.lean that lists a variable, with what it lists TIED to the program's text (the seventh form; the later family's looks); each row that meets fmt, with fmt's text TOLD by the authors' own Lean function (tested against real Go, not proved from fmt's source: count such statements apart). THE CARD IS WHAT COUNTS. Prove the row's statement (the work); the ties are given (YthlannjipbohkaaGreatDoorTie.lean); close each card by the builder's one call (the guide's Derived/Test/ToyasCard.lean, 'card_holds'). Laid BY PROGRAM, IN A SANDBOX (cutbox-door.mjs). By AI agents, Wed Nov 11 2026. No macro, syntax, notation, axiom, sorry.
-/
import Derived.Test.YthlannjipbohkaaGreatDoorRows
import GoSem.ClaimSeven
namespace Go.Proofs.YthlannjipbohkaaGreatDoor
namespace Rows

/-- THE TIED CARD OF 'periscopelaw09.SplitPlaces'. -/
def splitPlacesCard : Claim7 := { stood := { row := splitPlacesRow, standIns := [], harness := (true, "e17a7aaf507d1b89cb4a38c07986309401a73fb9005bb19b76913681330ad366"), looks := false }, kinds := [], alts := [], laidByText := true, laidKinds := [.data], laidTests := true, laidLooks := .later }
def SplitPlacesCardSaid : Prop := Claim7.holds Tryz.pinned (.plain (OpenSpec.ofChange splitPlacesSpec)) splitPlacesCard

/-- THE TIED CARD OF 'periscopelaw09.SplitFuels'. -/
def splitFuelsCard : Claim7 := { stood := { row := splitFuelsRow, standIns := [], harness := (true, "e17a7aaf507d1b89cb4a38c07986309401a73fb9005bb19b76913681330ad366"), looks := false }, kinds := [], alts := [], laidByText := true, laidKinds := [.data], laidTests := true, laidLooks := .later }
def SplitFuelsCardSaid : Prop := Claim7.holds Tryz.pinned (.plain (OpenSpec.ofChange splitFuelsSpec)) splitFuelsCard

/-- THE SECOND FORM's CARD OF 'periscopelaw09.SplitPlaces'. -/
def splitPlacesUptoCard : Claim7 := { stood := { row := splitPlacesUptoRow, standIns := [], harness := (true, "e17a7aaf507d1b89cb4a38c07986309401a73fb9005bb19b76913681330ad366"), looks := false }, kinds := [], alts := [], laidByText := true, laidKinds := [.data], laidTests := true, laidLooks := .later }
def SplitPlacesUptoCardSaid : Prop := Claim7.holds Tryz.pinned (.plain (OpenSpec.upto splitPlacesSpec)) splitPlacesUptoCard

/-- THE SECOND FORM's CARD OF 'periscopelaw09.SplitFuels'. -/
def splitFuelsUptoCard : Claim7 := { stood := { row := splitFuelsUptoRow, standIns := [], harness := (true, "e17a7aaf507d1b89cb4a38c07986309401a73fb9005bb19b76913681330ad366"), looks := false }, kinds := [], alts := [], laidByText := true, laidKinds := [.data], laidTests := true, laidLooks := .later }
def SplitFuelsUptoCardSaid : Prop := Claim7.holds Tryz.pinned (.plain (OpenSpec.upto splitFuelsSpec)) splitFuelsUptoCard
end Rows
end Go.Proofs.YthlannjipbohkaaGreatDoor
