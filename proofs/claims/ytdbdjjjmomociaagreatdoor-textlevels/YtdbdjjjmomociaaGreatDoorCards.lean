/-
  DERIVED. GIVEN WITH THE SEED: THE CARDS: each row of YtdbdjjjmomociaaGreatDoorRows.lean that lists a variable, with what it lists TIED to the program's text (the seventh form; the later family's looks); each row that meets fmt, with fmt's text TOLD by the authors' own Lean function (tested against real Go, not proved from fmt's source: count such statements apart). THE CARD IS WHAT COUNTS. Prove the row's statement (the work); the ties are given (YtdbdjjjmomociaaGreatDoorTie.lean); close each card by the builder's one call (the guide's Derived/Test/ToyasCard.lean, 'card_holds'). Laid BY PROGRAM, IN A SANDBOX (cutbox-door.mjs). By AI agents, Wed Nov 11 2026. No macro, syntax, notation, axiom, sorry.
-/
import Derived.Test.YtdbdjjjmomociaaGreatDoorRows
import GoSem.ClaimSeven
namespace Go.Proofs.YtdbdjjjmomociaaGreatDoor
namespace Rows

/-- THE TIED CARD OF 'periscopelaw04.TextReads'. -/
def textReadsCard : Claim7 := { stood := { row := textReadsRow, standIns := [], harness := (true, "fd26fc1e8ce7a37ab03d6ed416003586008b9fb48a9692d6db13c94de0b77a08"), looks := false }, kinds := [], alts := [], laidByText := true, laidKinds := [.data], laidTests := true, laidLooks := .later }
def TextReadsCardSaid : Prop := Claim7.holds Tryz.pinned (.plain (OpenSpec.ofChange textReadsSpec)) textReadsCard

/-- THE TIED CARD OF 'periscopelaw04.TextGrammar'. -/
def textGrammarCard : Claim7 := { stood := { row := textGrammarRow, standIns := [], harness := (true, "fd26fc1e8ce7a37ab03d6ed416003586008b9fb48a9692d6db13c94de0b77a08"), looks := false }, kinds := [], alts := [], laidByText := true, laidKinds := [.data], laidTests := true, laidLooks := .later }
def TextGrammarCardSaid : Prop := Claim7.holds Tryz.pinned (.plain (OpenSpec.ofChange textGrammarSpec)) textGrammarCard

/-- THE TIED CARD OF 'periscopelaw04.TextLevels'. -/
def textLevelsCard : Claim7 := { stood := { row := textLevelsRow, standIns := [], harness := (true, "fd26fc1e8ce7a37ab03d6ed416003586008b9fb48a9692d6db13c94de0b77a08"), looks := false }, kinds := [], alts := [], laidByText := true, laidKinds := [.data], laidTests := true, laidLooks := .later }
def TextLevelsCardSaid : Prop := Claim7.holds Tryz.pinned (.plain (OpenSpec.ofChange textLevelsSpec)) textLevelsCard

/-- THE TIED CARD OF 'periscopelaw04.TextErrors'. -/
def textErrorsCard : Claim7 := { stood := { row := textErrorsRow, standIns := [], harness := (true, "fd26fc1e8ce7a37ab03d6ed416003586008b9fb48a9692d6db13c94de0b77a08"), looks := false }, kinds := [], alts := [], laidByText := true, laidKinds := [.data], laidTests := true, laidLooks := .later }
def TextErrorsCardSaid : Prop := Claim7.holds Tryz.pinned (.plain (OpenSpec.ofChange textErrorsSpec)) textErrorsCard

/-- THE TIED CARD OF 'periscopelaw04.TextDeep'. -/
def textDeepCard : Claim7 := { stood := { row := textDeepRow, standIns := [], harness := (true, "fd26fc1e8ce7a37ab03d6ed416003586008b9fb48a9692d6db13c94de0b77a08"), looks := false }, kinds := [], alts := [], laidByText := true, laidKinds := [.data], laidTests := true, laidLooks := .later }
def TextDeepCardSaid : Prop := Claim7.holds Tryz.pinned (.plain (OpenSpec.ofChange textDeepSpec)) textDeepCard

/-- THE TIED CARD OF 'periscopelaw05.DerivParts'. -/
def derivPartsCard : Claim7 := { stood := { row := derivPartsRow, standIns := [], harness := (true, "fd26fc1e8ce7a37ab03d6ed416003586008b9fb48a9692d6db13c94de0b77a08"), looks := false }, kinds := [], alts := [], laidByText := true, laidKinds := [.data], laidTests := true, laidLooks := .later }
def DerivPartsCardSaid : Prop := Claim7.holds Tryz.pinned (.plain (OpenSpec.ofChange derivPartsSpec)) derivPartsCard

/-- THE SECOND FORM's CARD OF 'periscopelaw04.TextReads'. -/
def textReadsUptoCard : Claim7 := { stood := { row := textReadsUptoRow, standIns := [], harness := (true, "fd26fc1e8ce7a37ab03d6ed416003586008b9fb48a9692d6db13c94de0b77a08"), looks := false }, kinds := [], alts := [], laidByText := true, laidKinds := [.data], laidTests := true, laidLooks := .later }
def TextReadsUptoCardSaid : Prop := Claim7.holds Tryz.pinned (.plain (OpenSpec.upto textReadsSpec)) textReadsUptoCard

/-- THE SECOND FORM's CARD OF 'periscopelaw04.TextGrammar'. -/
def textGrammarUptoCard : Claim7 := { stood := { row := textGrammarUptoRow, standIns := [], harness := (true, "fd26fc1e8ce7a37ab03d6ed416003586008b9fb48a9692d6db13c94de0b77a08"), looks := false }, kinds := [], alts := [], laidByText := true, laidKinds := [.data], laidTests := true, laidLooks := .later }
def TextGrammarUptoCardSaid : Prop := Claim7.holds Tryz.pinned (.plain (OpenSpec.upto textGrammarSpec)) textGrammarUptoCard

/-- THE SECOND FORM's CARD OF 'periscopelaw04.TextLevels'. -/
def textLevelsUptoCard : Claim7 := { stood := { row := textLevelsUptoRow, standIns := [], harness := (true, "fd26fc1e8ce7a37ab03d6ed416003586008b9fb48a9692d6db13c94de0b77a08"), looks := false }, kinds := [], alts := [], laidByText := true, laidKinds := [.data], laidTests := true, laidLooks := .later }
def TextLevelsUptoCardSaid : Prop := Claim7.holds Tryz.pinned (.plain (OpenSpec.upto textLevelsSpec)) textLevelsUptoCard

/-- THE SECOND FORM's CARD OF 'periscopelaw04.TextErrors'. -/
def textErrorsUptoCard : Claim7 := { stood := { row := textErrorsUptoRow, standIns := [], harness := (true, "fd26fc1e8ce7a37ab03d6ed416003586008b9fb48a9692d6db13c94de0b77a08"), looks := false }, kinds := [], alts := [], laidByText := true, laidKinds := [.data], laidTests := true, laidLooks := .later }
def TextErrorsUptoCardSaid : Prop := Claim7.holds Tryz.pinned (.plain (OpenSpec.upto textErrorsSpec)) textErrorsUptoCard

/-- THE SECOND FORM's CARD OF 'periscopelaw04.TextDeep'. -/
def textDeepUptoCard : Claim7 := { stood := { row := textDeepUptoRow, standIns := [], harness := (true, "fd26fc1e8ce7a37ab03d6ed416003586008b9fb48a9692d6db13c94de0b77a08"), looks := false }, kinds := [], alts := [], laidByText := true, laidKinds := [.data], laidTests := true, laidLooks := .later }
def TextDeepUptoCardSaid : Prop := Claim7.holds Tryz.pinned (.plain (OpenSpec.upto textDeepSpec)) textDeepUptoCard

/-- THE SECOND FORM's CARD OF 'periscopelaw05.DerivParts'. -/
def derivPartsUptoCard : Claim7 := { stood := { row := derivPartsUptoRow, standIns := [], harness := (true, "fd26fc1e8ce7a37ab03d6ed416003586008b9fb48a9692d6db13c94de0b77a08"), looks := false }, kinds := [], alts := [], laidByText := true, laidKinds := [.data], laidTests := true, laidLooks := .later }
def DerivPartsUptoCardSaid : Prop := Claim7.holds Tryz.pinned (.plain (OpenSpec.upto derivPartsSpec)) derivPartsUptoCard
end Rows
end Go.Proofs.YtdbdjjjmomociaaGreatDoor
