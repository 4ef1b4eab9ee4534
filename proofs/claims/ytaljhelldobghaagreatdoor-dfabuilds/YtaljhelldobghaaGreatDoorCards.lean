/-
  DERIVED. GIVEN WITH THE SEED: THE CARDS: each row of YtaljhelldobghaaGreatDoorRows.lean that lists a variable, with what it lists TIED to the program's text (the seventh form; the later family's looks); each row that meets fmt, with fmt's text TOLD by the authors' own Lean function (tested against real Go, not proved from fmt's source: count such statements apart). THE CARD IS WHAT COUNTS. Prove the row's statement (the work); the ties are given (YtaljhelldobghaaGreatDoorTie.lean); close each card by the builder's one call (the guide's Derived/Test/ToyasCard.lean, 'card_holds'). Laid BY PROGRAM, IN A SANDBOX (cutbox-door.mjs). By AI agents, Wed Nov 11 2026. No macro, syntax, notation, axiom, sorry.
-/
import Derived.Test.YtaljhelldobghaaGreatDoorRows
import GoSem.ClaimSeven
namespace Go.Proofs.YtaljhelldobghaaGreatDoor
namespace Rows

/-- THE TIED CARD OF 'periscopelaw06.DfaBuilds'. -/
def dfaBuildsCard : Claim7 := { stood := { row := dfaBuildsRow, standIns := [], harness := (true, "2263d73bc1d84287549fdcd21e84cbf9a4c4753be7e858734303102a7fb78db4"), looks := false }, kinds := [], alts := [], laidByText := true, laidKinds := [.data], laidTests := true, laidLooks := .later }
def DfaBuildsCardSaid : Prop := Claim7.holds Tryz.pinned (.plain (OpenSpec.ofChange dfaBuildsSpec)) dfaBuildsCard

/-- THE TIED CARD OF 'periscopelaw06.DfaTexts'. -/
def dfaTextsCard : Claim7 := { stood := { row := dfaTextsRow, standIns := [], harness := (true, "2263d73bc1d84287549fdcd21e84cbf9a4c4753be7e858734303102a7fb78db4"), looks := false }, kinds := [], alts := [], laidByText := true, laidKinds := [.data], laidTests := true, laidLooks := .later }
def DfaTextsCardSaid : Prop := Claim7.holds Tryz.pinned (.plain (OpenSpec.ofChange dfaTextsSpec)) dfaTextsCard

/-- THE TIED CARD OF 'periscopelaw06.DfaBytes'. -/
def dfaBytesCard : Claim7 := { stood := { row := dfaBytesRow, standIns := [], harness := (true, "2263d73bc1d84287549fdcd21e84cbf9a4c4753be7e858734303102a7fb78db4"), looks := false }, kinds := [], alts := [], laidByText := true, laidKinds := [.data], laidTests := true, laidLooks := .later }
def DfaBytesCardSaid : Prop := Claim7.holds Tryz.pinned (.plain (OpenSpec.ofChange dfaBytesSpec)) dfaBytesCard

/-- THE TIED CARD OF 'periscopelaw06.DfaLives'. -/
def dfaLivesCard : Claim7 := { stood := { row := dfaLivesRow, standIns := [], harness := (true, "2263d73bc1d84287549fdcd21e84cbf9a4c4753be7e858734303102a7fb78db4"), looks := false }, kinds := [], alts := [], laidByText := true, laidKinds := [.data], laidTests := true, laidLooks := .later }
def DfaLivesCardSaid : Prop := Claim7.holds Tryz.pinned (.plain (OpenSpec.ofChange dfaLivesSpec)) dfaLivesCard

/-- THE TIED CARD OF 'periscopelaw06.DfaBudgets'. -/
def dfaBudgetsCard : Claim7 := { stood := { row := dfaBudgetsRow, standIns := [], harness := (true, "2263d73bc1d84287549fdcd21e84cbf9a4c4753be7e858734303102a7fb78db4"), looks := false }, kinds := [], alts := [], laidByText := true, laidKinds := [.data], laidTests := true, laidLooks := .later }
def DfaBudgetsCardSaid : Prop := Claim7.holds Tryz.pinned (.plain (OpenSpec.ofChange dfaBudgetsSpec)) dfaBudgetsCard

/-- THE SECOND FORM's CARD OF 'periscopelaw06.DfaBuilds'. -/
def dfaBuildsUptoCard : Claim7 := { stood := { row := dfaBuildsUptoRow, standIns := [], harness := (true, "2263d73bc1d84287549fdcd21e84cbf9a4c4753be7e858734303102a7fb78db4"), looks := false }, kinds := [], alts := [], laidByText := true, laidKinds := [.data], laidTests := true, laidLooks := .later }
def DfaBuildsUptoCardSaid : Prop := Claim7.holds Tryz.pinned (.plain (OpenSpec.upto dfaBuildsSpec)) dfaBuildsUptoCard

/-- THE SECOND FORM's CARD OF 'periscopelaw06.DfaTexts'. -/
def dfaTextsUptoCard : Claim7 := { stood := { row := dfaTextsUptoRow, standIns := [], harness := (true, "2263d73bc1d84287549fdcd21e84cbf9a4c4753be7e858734303102a7fb78db4"), looks := false }, kinds := [], alts := [], laidByText := true, laidKinds := [.data], laidTests := true, laidLooks := .later }
def DfaTextsUptoCardSaid : Prop := Claim7.holds Tryz.pinned (.plain (OpenSpec.upto dfaTextsSpec)) dfaTextsUptoCard

/-- THE SECOND FORM's CARD OF 'periscopelaw06.DfaBytes'. -/
def dfaBytesUptoCard : Claim7 := { stood := { row := dfaBytesUptoRow, standIns := [], harness := (true, "2263d73bc1d84287549fdcd21e84cbf9a4c4753be7e858734303102a7fb78db4"), looks := false }, kinds := [], alts := [], laidByText := true, laidKinds := [.data], laidTests := true, laidLooks := .later }
def DfaBytesUptoCardSaid : Prop := Claim7.holds Tryz.pinned (.plain (OpenSpec.upto dfaBytesSpec)) dfaBytesUptoCard

/-- THE SECOND FORM's CARD OF 'periscopelaw06.DfaLives'. -/
def dfaLivesUptoCard : Claim7 := { stood := { row := dfaLivesUptoRow, standIns := [], harness := (true, "2263d73bc1d84287549fdcd21e84cbf9a4c4753be7e858734303102a7fb78db4"), looks := false }, kinds := [], alts := [], laidByText := true, laidKinds := [.data], laidTests := true, laidLooks := .later }
def DfaLivesUptoCardSaid : Prop := Claim7.holds Tryz.pinned (.plain (OpenSpec.upto dfaLivesSpec)) dfaLivesUptoCard

/-- THE SECOND FORM's CARD OF 'periscopelaw06.DfaBudgets'. -/
def dfaBudgetsUptoCard : Claim7 := { stood := { row := dfaBudgetsUptoRow, standIns := [], harness := (true, "2263d73bc1d84287549fdcd21e84cbf9a4c4753be7e858734303102a7fb78db4"), looks := false }, kinds := [], alts := [], laidByText := true, laidKinds := [.data], laidTests := true, laidLooks := .later }
def DfaBudgetsUptoCardSaid : Prop := Claim7.holds Tryz.pinned (.plain (OpenSpec.upto dfaBudgetsSpec)) dfaBudgetsUptoCard
end Rows
end Go.Proofs.YtaljhelldobghaaGreatDoor
