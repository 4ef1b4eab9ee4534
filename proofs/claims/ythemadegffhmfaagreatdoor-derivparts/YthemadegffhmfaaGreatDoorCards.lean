/-
  DERIVED. GIVEN WITH THE SEED: THE CARDS: each row of YthemadegffhmfaaGreatDoorRows.lean that lists a variable, with what it lists TIED to the program's text (the seventh form; the later family's looks); each row that meets fmt, with fmt's text TOLD by the authors' own Lean function (tested against real Go, not proved from fmt's source: count such statements apart). THE CARD IS WHAT COUNTS. Prove the row's statement (the work); the ties are given (YthemadegffhmfaaGreatDoorTie.lean); close each card by the builder's one call (the guide's Derived/Test/ToyasCard.lean, 'card_holds'). Laid BY PROGRAM, IN A SANDBOX (cutbox-door.mjs). By AI agents, Wed Nov 11 2026. No macro, syntax, notation, axiom, sorry.
-/
import Derived.Test.YthemadegffhmfaaGreatDoorRows
import GoSem.ClaimSeven
namespace Go.Proofs.YthemadegffhmfaaGreatDoor
namespace Rows

/-- THE TIED CARD OF 'periscopelaw05.DerivParts'. -/
def derivPartsCard : Claim7 := { stood := { row := derivPartsRow, standIns := [], harness := (true, "bf994570c87062c62243035b4eb3af7205886b3f113395833780a9488873b6bf"), looks := false }, kinds := [], alts := [], laidByText := true, laidKinds := [.data], laidTests := true, laidLooks := .later }
def DerivPartsCardSaid : Prop := Claim7.holds Tryz.pinned (.plain (OpenSpec.ofChange derivPartsSpec)) derivPartsCard

/-- THE SECOND FORM's CARD OF 'periscopelaw05.DerivParts'. -/
def derivPartsUptoCard : Claim7 := { stood := { row := derivPartsUptoRow, standIns := [], harness := (true, "bf994570c87062c62243035b4eb3af7205886b3f113395833780a9488873b6bf"), looks := false }, kinds := [], alts := [], laidByText := true, laidKinds := [.data], laidTests := true, laidLooks := .later }
def DerivPartsUptoCardSaid : Prop := Claim7.holds Tryz.pinned (.plain (OpenSpec.upto derivPartsSpec)) derivPartsUptoCard
end Rows
end Go.Proofs.YthemadegffhmfaaGreatDoor
