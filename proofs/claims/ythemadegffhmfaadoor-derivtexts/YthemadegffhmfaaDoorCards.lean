/-
  DERIVED. GIVEN WITH THE SEED: THE CARDS: each row of YthemadegffhmfaaDoorRows.lean that lists a variable, with what it lists TIED to the program's text (the seventh form; the later family's looks); each row that meets fmt, with fmt's text TOLD by the authors' own Lean function (tested against real Go, not proved from fmt's source: count such statements apart). THE CARD IS WHAT COUNTS. Prove the row's statement (the work); the ties are given (YthemadegffhmfaaDoorTie.lean); close each card by the builder's one call (the guide's Derived/Test/ToyasCard.lean, 'card_holds'). Laid BY PROGRAM, IN A SANDBOX (cutbox-door.mjs). By AI agents, Wed Nov 11 2026. No macro, syntax, notation, axiom, sorry.
-/
import Derived.Test.YthemadegffhmfaaDoorRows
import GoSem.ClaimSeven
namespace Go.Proofs.YthemadegffhmfaaDoor
namespace Rows

/-- THE TIED CARD OF 'periscopelaw05.DerivTexts'. -/
def derivTextsCard : Claim7 := { stood := { row := derivTextsRow, standIns := [], harness := (true, "470ed89fbaf48f301557bb1e637407c0544508912020b76dc76a30e604d3d2d5"), looks := false }, kinds := [], alts := [], laidByText := true, laidKinds := [.data], laidTests := true, laidLooks := .later }
def DerivTextsCardSaid : Prop := Claim7.holds Tryd.pinned (.plain (OpenSpec.ofChange derivTextsSpec)) derivTextsCard

/-- THE TIED CARD OF 'periscopelaw05.DerivRules'. -/
def derivRulesCard : Claim7 := { stood := { row := derivRulesRow, standIns := [], harness := (true, "470ed89fbaf48f301557bb1e637407c0544508912020b76dc76a30e604d3d2d5"), looks := false }, kinds := [], alts := [], laidByText := true, laidKinds := [.data], laidTests := true, laidLooks := .later }
def DerivRulesCardSaid : Prop := Claim7.holds Tryd.pinned (.plain (OpenSpec.ofChange derivRulesSpec)) derivRulesCard

/-- THE TIED CARD OF 'periscopelaw05.DerivWords'. -/
def derivWordsCard : Claim7 := { stood := { row := derivWordsRow, standIns := [], harness := (true, "470ed89fbaf48f301557bb1e637407c0544508912020b76dc76a30e604d3d2d5"), looks := false }, kinds := [], alts := [], laidByText := true, laidKinds := [.data], laidTests := true, laidLooks := .later }
def DerivWordsCardSaid : Prop := Claim7.holds Tryd.pinned (.plain (OpenSpec.ofChange derivWordsSpec)) derivWordsCard

/-- THE SECOND FORM's CARD OF 'periscopelaw05.DerivTexts'. -/
def derivTextsUptoCard : Claim7 := { stood := { row := derivTextsUptoRow, standIns := [], harness := (true, "470ed89fbaf48f301557bb1e637407c0544508912020b76dc76a30e604d3d2d5"), looks := false }, kinds := [], alts := [], laidByText := true, laidKinds := [.data], laidTests := true, laidLooks := .later }
def DerivTextsUptoCardSaid : Prop := Claim7.holds Tryd.pinned (.plain (OpenSpec.upto derivTextsSpec)) derivTextsUptoCard

/-- THE SECOND FORM's CARD OF 'periscopelaw05.DerivRules'. -/
def derivRulesUptoCard : Claim7 := { stood := { row := derivRulesUptoRow, standIns := [], harness := (true, "470ed89fbaf48f301557bb1e637407c0544508912020b76dc76a30e604d3d2d5"), looks := false }, kinds := [], alts := [], laidByText := true, laidKinds := [.data], laidTests := true, laidLooks := .later }
def DerivRulesUptoCardSaid : Prop := Claim7.holds Tryd.pinned (.plain (OpenSpec.upto derivRulesSpec)) derivRulesUptoCard

/-- THE SECOND FORM's CARD OF 'periscopelaw05.DerivWords'. -/
def derivWordsUptoCard : Claim7 := { stood := { row := derivWordsUptoRow, standIns := [], harness := (true, "470ed89fbaf48f301557bb1e637407c0544508912020b76dc76a30e604d3d2d5"), looks := false }, kinds := [], alts := [], laidByText := true, laidKinds := [.data], laidTests := true, laidLooks := .later }
def DerivWordsUptoCardSaid : Prop := Claim7.holds Tryd.pinned (.plain (OpenSpec.upto derivWordsSpec)) derivWordsUptoCard
end Rows
end Go.Proofs.YthemadegffhmfaaDoor
