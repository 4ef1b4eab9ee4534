/-
  DERIVED. GIVEN WITH THE SEED: THE CARDS: each row of YtkjmjppmpcnejaaDoorRows.lean that lists a variable, with what it lists TIED to the program's text (the seventh form; the later family's looks); each row that meets fmt, with fmt's text TOLD by the authors' own Lean function (tested against real Go, not proved from fmt's source: count such statements apart). THE CARD IS WHAT COUNTS. Prove the row's statement (the work); the ties are given (YtkjmjppmpcnejaaDoorTie.lean); close each card by the builder's one call (the guide's Derived/Test/ToyasCard.lean, 'card_holds'). Laid BY PROGRAM, IN A SANDBOX (cutbox-door.mjs). By AI agents, Wed Nov 11 2026. No macro, syntax, notation, axiom, sorry.
-/
import Derived.Test.YtkjmjppmpcnejaaDoorRows
import GoSem.ClaimSeven
namespace Go.Proofs.YtkjmjppmpcnejaaDoor
namespace Rows

/-- THE TIED CARD OF 'periscopelaw03.ReTexts'. -/
def reTextsCard : Claim7 := { stood := { row := reTextsRow, standIns := [], harness := (true, "6635abf753052392d81ca8782c871fa248e2678d3ca4f413b36a2b87bea73b29"), looks := false }, kinds := [], alts := [], laidByText := true, laidKinds := [.data], laidTests := true, laidLooks := .later }
def ReTextsCardSaid : Prop := Claim7.holds Tryd.pinned (.plain (OpenSpec.ofChange reTextsSpec)) reTextsCard

/-- THE TIED CARD OF 'periscopelaw03.ReKeys'. -/
def reKeysCard : Claim7 := { stood := { row := reKeysRow, standIns := [], harness := (true, "6635abf753052392d81ca8782c871fa248e2678d3ca4f413b36a2b87bea73b29"), looks := false }, kinds := [], alts := [], laidByText := true, laidKinds := [.data], laidTests := true, laidLooks := .later }
def ReKeysCardSaid : Prop := Claim7.holds Tryd.pinned (.plain (OpenSpec.ofChange reKeysSpec)) reKeysCard

/-- THE TIED CARD OF 'periscopelaw03.ReOrders'. -/
def reOrdersCard : Claim7 := { stood := { row := reOrdersRow, standIns := [], harness := (true, "6635abf753052392d81ca8782c871fa248e2678d3ca4f413b36a2b87bea73b29"), looks := false }, kinds := [], alts := [], laidByText := true, laidKinds := [.data], laidTests := true, laidLooks := .later }
def ReOrdersCardSaid : Prop := Claim7.holds Tryd.pinned (.plain (OpenSpec.ofChange reOrdersSpec)) reOrdersCard

/-- THE SECOND FORM's CARD OF 'periscopelaw03.ReTexts'. -/
def reTextsUptoCard : Claim7 := { stood := { row := reTextsUptoRow, standIns := [], harness := (true, "6635abf753052392d81ca8782c871fa248e2678d3ca4f413b36a2b87bea73b29"), looks := false }, kinds := [], alts := [], laidByText := true, laidKinds := [.data], laidTests := true, laidLooks := .later }
def ReTextsUptoCardSaid : Prop := Claim7.holds Tryd.pinned (.plain (OpenSpec.upto reTextsSpec)) reTextsUptoCard

/-- THE SECOND FORM's CARD OF 'periscopelaw03.ReKeys'. -/
def reKeysUptoCard : Claim7 := { stood := { row := reKeysUptoRow, standIns := [], harness := (true, "6635abf753052392d81ca8782c871fa248e2678d3ca4f413b36a2b87bea73b29"), looks := false }, kinds := [], alts := [], laidByText := true, laidKinds := [.data], laidTests := true, laidLooks := .later }
def ReKeysUptoCardSaid : Prop := Claim7.holds Tryd.pinned (.plain (OpenSpec.upto reKeysSpec)) reKeysUptoCard

/-- THE SECOND FORM's CARD OF 'periscopelaw03.ReOrders'. -/
def reOrdersUptoCard : Claim7 := { stood := { row := reOrdersUptoRow, standIns := [], harness := (true, "6635abf753052392d81ca8782c871fa248e2678d3ca4f413b36a2b87bea73b29"), looks := false }, kinds := [], alts := [], laidByText := true, laidKinds := [.data], laidTests := true, laidLooks := .later }
def ReOrdersUptoCardSaid : Prop := Claim7.holds Tryd.pinned (.plain (OpenSpec.upto reOrdersSpec)) reOrdersUptoCard
end Rows
end Go.Proofs.YtkjmjppmpcnejaaDoor
