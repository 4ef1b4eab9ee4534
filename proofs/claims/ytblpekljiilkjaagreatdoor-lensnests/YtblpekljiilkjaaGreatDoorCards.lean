/-
  DERIVED. GIVEN WITH THE SEED: THE CARDS: each row of YtblpekljiilkjaaGreatDoorRows.lean that lists a variable, with what it lists TIED to the program's text (the seventh form; the later family's looks); each row that meets fmt, with fmt's text TOLD by the authors' own Lean function (tested against real Go, not proved from fmt's source: count such statements apart). THE CARD IS WHAT COUNTS. Prove the row's statement (the work); the ties are given (YtblpekljiilkjaaGreatDoorTie.lean); close each card by the builder's one call (the guide's Derived/Test/ToyasCard.lean, 'card_holds'). Laid BY PROGRAM, IN A SANDBOX (cutbox-door.mjs). By AI agents, Wed Nov 11 2026. No macro, syntax, notation, axiom, sorry.
-/
import Derived.Test.YtblpekljiilkjaaGreatDoorRows
import GoSem.ClaimSeven
namespace Go.Proofs.YtblpekljiilkjaaGreatDoor
namespace Rows

/-- THE TIED CARD OF 'periscopelaw10.LensTexts'. -/
def lensTextsCard : Claim7 := { stood := { row := lensTextsRow, standIns := [], harness := (true, "9771dd6f32ac10a09951d05665ea813dae076b1ea393c5e2a53af45884ecb224"), looks := false }, kinds := [], alts := [], laidByText := true, laidKinds := [.data, .data], laidTests := true, laidLooks := .later }
def LensTextsCardSaid : Prop := Claim7.holds Tryz.pinned (.plain (OpenSpec.ofChange lensTextsSpec)) lensTextsCard

/-- THE TIED CARD OF 'periscopelaw10.LensSames'. -/
def lensSamesCard : Claim7 := { stood := { row := lensSamesRow, standIns := [], harness := (true, "9771dd6f32ac10a09951d05665ea813dae076b1ea393c5e2a53af45884ecb224"), looks := false }, kinds := [], alts := [], laidByText := true, laidKinds := [.data, .data], laidTests := true, laidLooks := .later }
def LensSamesCardSaid : Prop := Claim7.holds Tryz.pinned (.plain (OpenSpec.ofChange lensSamesSpec)) lensSamesCard

/-- THE TIED CARD OF 'periscopelaw10.LensWalks'. -/
def lensWalksCard : Claim7 := { stood := { row := lensWalksRow, standIns := [], harness := (true, "9771dd6f32ac10a09951d05665ea813dae076b1ea393c5e2a53af45884ecb224"), looks := false }, kinds := [], alts := [], laidByText := true, laidKinds := [.data, .data], laidTests := true, laidLooks := .later }
def LensWalksCardSaid : Prop := Claim7.holds Tryz.pinned (.plain (OpenSpec.ofChange lensWalksSpec)) lensWalksCard

/-- THE TIED CARD OF 'periscopelaw10.LensWords'. -/
def lensWordsCard : Claim7 := { stood := { row := lensWordsRow, standIns := [], harness := (true, "9771dd6f32ac10a09951d05665ea813dae076b1ea393c5e2a53af45884ecb224"), looks := false }, kinds := [], alts := [], laidByText := true, laidKinds := [.data, .data], laidTests := true, laidLooks := .later }
def LensWordsCardSaid : Prop := Claim7.holds Tryz.pinned (.plain (OpenSpec.ofChange lensWordsSpec)) lensWordsCard

/-- THE TIED CARD OF 'periscopelaw10.LensNests'. -/
def lensNestsCard : Claim7 := { stood := { row := lensNestsRow, standIns := [], harness := (true, "9771dd6f32ac10a09951d05665ea813dae076b1ea393c5e2a53af45884ecb224"), looks := false }, kinds := [], alts := [], laidByText := true, laidKinds := [.data, .data], laidTests := true, laidLooks := .later }
def LensNestsCardSaid : Prop := Claim7.holds Tryz.pinned (.plain (OpenSpec.ofChange lensNestsSpec)) lensNestsCard

/-- THE TIED CARD OF 'periscopelaw11.LexParts'. -/
def lexPartsCard : Claim7 := { stood := { row := lexPartsRow, standIns := [], harness := (true, "9771dd6f32ac10a09951d05665ea813dae076b1ea393c5e2a53af45884ecb224"), looks := false }, kinds := [], alts := [], laidByText := true, laidKinds := [.data], laidTests := true, laidLooks := .later }
def LexPartsCardSaid : Prop := Claim7.holds Tryz.pinned (.plain (OpenSpec.ofChange lexPartsSpec)) lexPartsCard

/-- THE TIED CARD OF 'periscopelaw11.LexReads'. -/
def lexReadsCard : Claim7 := { stood := { row := lexReadsRow, standIns := [], harness := (true, "9771dd6f32ac10a09951d05665ea813dae076b1ea393c5e2a53af45884ecb224"), looks := false }, kinds := [], alts := [], laidByText := true, laidKinds := [.data], laidTests := true, laidLooks := .later }
def LexReadsCardSaid : Prop := Claim7.holds Tryz.pinned (.plain (OpenSpec.ofChange lexReadsSpec)) lexReadsCard

/-- THE TIED CARD OF 'periscopelaw11.LexNames'. -/
def lexNamesCard : Claim7 := { stood := { row := lexNamesRow, standIns := [], harness := (true, "9771dd6f32ac10a09951d05665ea813dae076b1ea393c5e2a53af45884ecb224"), looks := false }, kinds := [], alts := [], laidByText := true, laidKinds := [.data], laidTests := true, laidLooks := .later }
def LexNamesCardSaid : Prop := Claim7.holds Tryz.pinned (.plain (OpenSpec.ofChange lexNamesSpec)) lexNamesCard

/-- THE TIED CARD OF 'periscopelaw11.LexErrors'. -/
def lexErrorsCard : Claim7 := { stood := { row := lexErrorsRow, standIns := [], harness := (true, "9771dd6f32ac10a09951d05665ea813dae076b1ea393c5e2a53af45884ecb224"), looks := false }, kinds := [], alts := [], laidByText := true, laidKinds := [.data], laidTests := true, laidLooks := .later }
def LexErrorsCardSaid : Prop := Claim7.holds Tryz.pinned (.plain (OpenSpec.ofChange lexErrorsSpec)) lexErrorsCard

/-- THE SECOND FORM's CARD OF 'periscopelaw10.LensTexts'. -/
def lensTextsUptoCard : Claim7 := { stood := { row := lensTextsUptoRow, standIns := [], harness := (true, "9771dd6f32ac10a09951d05665ea813dae076b1ea393c5e2a53af45884ecb224"), looks := false }, kinds := [], alts := [], laidByText := true, laidKinds := [.data, .data], laidTests := true, laidLooks := .later }
def LensTextsUptoCardSaid : Prop := Claim7.holds Tryz.pinned (.plain (OpenSpec.upto lensTextsSpec)) lensTextsUptoCard

/-- THE SECOND FORM's CARD OF 'periscopelaw10.LensSames'. -/
def lensSamesUptoCard : Claim7 := { stood := { row := lensSamesUptoRow, standIns := [], harness := (true, "9771dd6f32ac10a09951d05665ea813dae076b1ea393c5e2a53af45884ecb224"), looks := false }, kinds := [], alts := [], laidByText := true, laidKinds := [.data, .data], laidTests := true, laidLooks := .later }
def LensSamesUptoCardSaid : Prop := Claim7.holds Tryz.pinned (.plain (OpenSpec.upto lensSamesSpec)) lensSamesUptoCard

/-- THE SECOND FORM's CARD OF 'periscopelaw10.LensWalks'. -/
def lensWalksUptoCard : Claim7 := { stood := { row := lensWalksUptoRow, standIns := [], harness := (true, "9771dd6f32ac10a09951d05665ea813dae076b1ea393c5e2a53af45884ecb224"), looks := false }, kinds := [], alts := [], laidByText := true, laidKinds := [.data, .data], laidTests := true, laidLooks := .later }
def LensWalksUptoCardSaid : Prop := Claim7.holds Tryz.pinned (.plain (OpenSpec.upto lensWalksSpec)) lensWalksUptoCard

/-- THE SECOND FORM's CARD OF 'periscopelaw10.LensWords'. -/
def lensWordsUptoCard : Claim7 := { stood := { row := lensWordsUptoRow, standIns := [], harness := (true, "9771dd6f32ac10a09951d05665ea813dae076b1ea393c5e2a53af45884ecb224"), looks := false }, kinds := [], alts := [], laidByText := true, laidKinds := [.data, .data], laidTests := true, laidLooks := .later }
def LensWordsUptoCardSaid : Prop := Claim7.holds Tryz.pinned (.plain (OpenSpec.upto lensWordsSpec)) lensWordsUptoCard

/-- THE SECOND FORM's CARD OF 'periscopelaw10.LensNests'. -/
def lensNestsUptoCard : Claim7 := { stood := { row := lensNestsUptoRow, standIns := [], harness := (true, "9771dd6f32ac10a09951d05665ea813dae076b1ea393c5e2a53af45884ecb224"), looks := false }, kinds := [], alts := [], laidByText := true, laidKinds := [.data, .data], laidTests := true, laidLooks := .later }
def LensNestsUptoCardSaid : Prop := Claim7.holds Tryz.pinned (.plain (OpenSpec.upto lensNestsSpec)) lensNestsUptoCard

/-- THE SECOND FORM's CARD OF 'periscopelaw11.LexParts'. -/
def lexPartsUptoCard : Claim7 := { stood := { row := lexPartsUptoRow, standIns := [], harness := (true, "9771dd6f32ac10a09951d05665ea813dae076b1ea393c5e2a53af45884ecb224"), looks := false }, kinds := [], alts := [], laidByText := true, laidKinds := [.data], laidTests := true, laidLooks := .later }
def LexPartsUptoCardSaid : Prop := Claim7.holds Tryz.pinned (.plain (OpenSpec.upto lexPartsSpec)) lexPartsUptoCard

/-- THE SECOND FORM's CARD OF 'periscopelaw11.LexReads'. -/
def lexReadsUptoCard : Claim7 := { stood := { row := lexReadsUptoRow, standIns := [], harness := (true, "9771dd6f32ac10a09951d05665ea813dae076b1ea393c5e2a53af45884ecb224"), looks := false }, kinds := [], alts := [], laidByText := true, laidKinds := [.data], laidTests := true, laidLooks := .later }
def LexReadsUptoCardSaid : Prop := Claim7.holds Tryz.pinned (.plain (OpenSpec.upto lexReadsSpec)) lexReadsUptoCard

/-- THE SECOND FORM's CARD OF 'periscopelaw11.LexNames'. -/
def lexNamesUptoCard : Claim7 := { stood := { row := lexNamesUptoRow, standIns := [], harness := (true, "9771dd6f32ac10a09951d05665ea813dae076b1ea393c5e2a53af45884ecb224"), looks := false }, kinds := [], alts := [], laidByText := true, laidKinds := [.data], laidTests := true, laidLooks := .later }
def LexNamesUptoCardSaid : Prop := Claim7.holds Tryz.pinned (.plain (OpenSpec.upto lexNamesSpec)) lexNamesUptoCard

/-- THE SECOND FORM's CARD OF 'periscopelaw11.LexErrors'. -/
def lexErrorsUptoCard : Claim7 := { stood := { row := lexErrorsUptoRow, standIns := [], harness := (true, "9771dd6f32ac10a09951d05665ea813dae076b1ea393c5e2a53af45884ecb224"), looks := false }, kinds := [], alts := [], laidByText := true, laidKinds := [.data], laidTests := true, laidLooks := .later }
def LexErrorsUptoCardSaid : Prop := Claim7.holds Tryz.pinned (.plain (OpenSpec.upto lexErrorsSpec)) lexErrorsUptoCard
end Rows
end Go.Proofs.YtblpekljiilkjaaGreatDoor
