/-
  DERIVED. GIVEN WITH THE SEED: THE CARDS: each row of YtfoamihjmmgnlaaDoorRows.lean that lists a variable, with what it lists TIED to the program's text (the seventh form; the later family's looks); each row that meets fmt, with fmt's text TOLD by the authors' own Lean function (tested against real Go, not proved from fmt's source: count such statements apart). THE CARD IS WHAT COUNTS. Prove the row's statement (the work); the ties are given (YtfoamihjmmgnlaaDoorTie.lean); close each card by the builder's one call (the guide's Derived/Test/ToyasCard.lean, 'card_holds'). Laid BY PROGRAM, IN A SANDBOX (cutbox-door.mjs). By AI agents, Wed Nov 11 2026. No macro, syntax, notation, axiom, sorry.
-/
import Derived.Test.YtfoamihjmmgnlaaDoorRows
import GoSem.ClaimSeven
namespace Go.Proofs.YtfoamihjmmgnlaaDoor
namespace Rows

/-- THE TIED CARD OF 'periscopelaw01.SetOps'. -/
def setOpsCard : Claim7 := { stood := { row := setOpsRow, standIns := [], harness := (true, "8b07431920b14c2ae140ff6d01ec71f05b400187c5fe94b4a0d3a1f85618dade"), looks := false }, kinds := [], alts := [], laidByText := true, laidKinds := [.data], laidTests := true, laidLooks := .later }
def SetOpsCardSaid : Prop := Claim7.holds Tryd.pinned (.plain (OpenSpec.ofChange setOpsSpec)) setOpsCard

/-- THE TIED CARD OF 'periscopelaw01.SetMakes'. -/
def setMakesCard : Claim7 := { stood := { row := setMakesRow, standIns := [], harness := (true, "8b07431920b14c2ae140ff6d01ec71f05b400187c5fe94b4a0d3a1f85618dade"), looks := false }, kinds := [], alts := [], laidByText := true, laidKinds := [.data], laidTests := true, laidLooks := .later }
def SetMakesCardSaid : Prop := Claim7.holds Tryd.pinned (.plain (OpenSpec.ofChange setMakesSpec)) setMakesCard

/-- THE TIED CARD OF 'periscopelaw01.SetRuns'. -/
def setRunsCard : Claim7 := { stood := { row := setRunsRow, standIns := [], harness := (true, "8b07431920b14c2ae140ff6d01ec71f05b400187c5fe94b4a0d3a1f85618dade"), looks := false }, kinds := [], alts := [], laidByText := true, laidKinds := [.data], laidTests := true, laidLooks := .later }
def SetRunsCardSaid : Prop := Claim7.holds Tryd.pinned (.plain (OpenSpec.ofChange setRunsSpec)) setRunsCard

/-- THE TIED CARD OF 'periscopelaw01.SetLaws'. -/
def setLawsCard : Claim7 := { stood := { row := setLawsRow, standIns := [], harness := (true, "8b07431920b14c2ae140ff6d01ec71f05b400187c5fe94b4a0d3a1f85618dade"), looks := false }, kinds := [], alts := [], laidByText := true, laidKinds := [.data], laidTests := true, laidLooks := .later }
def SetLawsCardSaid : Prop := Claim7.holds Tryd.pinned (.plain (OpenSpec.ofChange setLawsSpec)) setLawsCard

/-- THE TIED CARD OF 'periscopelaw02.PartRefines'. -/
def partRefinesCard : Claim7 := { stood := { row := partRefinesRow, standIns := [], harness := (true, "8b07431920b14c2ae140ff6d01ec71f05b400187c5fe94b4a0d3a1f85618dade"), looks := false }, kinds := [], alts := [], laidByText := true, laidKinds := [.data], laidTests := true, laidLooks := .later }
def PartRefinesCardSaid : Prop := Claim7.holds Tryd.pinned (.plain (OpenSpec.ofChange partRefinesSpec)) partRefinesCard

/-- THE TIED CARD OF 'periscopelaw02.PartOrders'. -/
def partOrdersCard : Claim7 := { stood := { row := partOrdersRow, standIns := [], harness := (true, "8b07431920b14c2ae140ff6d01ec71f05b400187c5fe94b4a0d3a1f85618dade"), looks := false }, kinds := [], alts := [], laidByText := true, laidKinds := [.data], laidTests := true, laidLooks := .later }
def PartOrdersCardSaid : Prop := Claim7.holds Tryd.pinned (.plain (OpenSpec.ofChange partOrdersSpec)) partOrdersCard

/-- THE TIED CARD OF 'periscopelaw02.PartIndexes'. -/
def partIndexesCard : Claim7 := { stood := { row := partIndexesRow, standIns := [], harness := (true, "8b07431920b14c2ae140ff6d01ec71f05b400187c5fe94b4a0d3a1f85618dade"), looks := false }, kinds := [], alts := [], laidByText := true, laidKinds := [.data], laidTests := true, laidLooks := .later }
def PartIndexesCardSaid : Prop := Claim7.holds Tryd.pinned (.plain (OpenSpec.ofChange partIndexesSpec)) partIndexesCard

/-- THE TIED CARD OF 'periscopelaw03.ReTexts'. -/
def reTextsCard : Claim7 := { stood := { row := reTextsRow, standIns := [], harness := (true, "8b07431920b14c2ae140ff6d01ec71f05b400187c5fe94b4a0d3a1f85618dade"), looks := false }, kinds := [], alts := [], laidByText := true, laidKinds := [.data], laidTests := true, laidLooks := .later }
def ReTextsCardSaid : Prop := Claim7.holds Tryd.pinned (.plain (OpenSpec.ofChange reTextsSpec)) reTextsCard

/-- THE TIED CARD OF 'periscopelaw03.ReKeys'. -/
def reKeysCard : Claim7 := { stood := { row := reKeysRow, standIns := [], harness := (true, "8b07431920b14c2ae140ff6d01ec71f05b400187c5fe94b4a0d3a1f85618dade"), looks := false }, kinds := [], alts := [], laidByText := true, laidKinds := [.data], laidTests := true, laidLooks := .later }
def ReKeysCardSaid : Prop := Claim7.holds Tryd.pinned (.plain (OpenSpec.ofChange reKeysSpec)) reKeysCard

/-- THE TIED CARD OF 'periscopelaw03.ReOrders'. -/
def reOrdersCard : Claim7 := { stood := { row := reOrdersRow, standIns := [], harness := (true, "8b07431920b14c2ae140ff6d01ec71f05b400187c5fe94b4a0d3a1f85618dade"), looks := false }, kinds := [], alts := [], laidByText := true, laidKinds := [.data], laidTests := true, laidLooks := .later }
def ReOrdersCardSaid : Prop := Claim7.holds Tryd.pinned (.plain (OpenSpec.ofChange reOrdersSpec)) reOrdersCard

/-- THE TIED CARD OF 'periscopelaw03.ReWiths'. -/
def reWithsCard : Claim7 := { stood := { row := reWithsRow, standIns := [], harness := (true, "8b07431920b14c2ae140ff6d01ec71f05b400187c5fe94b4a0d3a1f85618dade"), looks := false }, kinds := [], alts := [], laidByText := true, laidKinds := [.data], laidTests := true, laidLooks := .later }
def ReWithsCardSaid : Prop := Claim7.holds Tryd.pinned (.plain (OpenSpec.ofChange reWithsSpec)) reWithsCard

/-- THE SECOND FORM's CARD OF 'periscopelaw01.SetOps'. -/
def setOpsUptoCard : Claim7 := { stood := { row := setOpsUptoRow, standIns := [], harness := (true, "8b07431920b14c2ae140ff6d01ec71f05b400187c5fe94b4a0d3a1f85618dade"), looks := false }, kinds := [], alts := [], laidByText := true, laidKinds := [.data], laidTests := true, laidLooks := .later }
def SetOpsUptoCardSaid : Prop := Claim7.holds Tryd.pinned (.plain (OpenSpec.upto setOpsSpec)) setOpsUptoCard

/-- THE SECOND FORM's CARD OF 'periscopelaw01.SetMakes'. -/
def setMakesUptoCard : Claim7 := { stood := { row := setMakesUptoRow, standIns := [], harness := (true, "8b07431920b14c2ae140ff6d01ec71f05b400187c5fe94b4a0d3a1f85618dade"), looks := false }, kinds := [], alts := [], laidByText := true, laidKinds := [.data], laidTests := true, laidLooks := .later }
def SetMakesUptoCardSaid : Prop := Claim7.holds Tryd.pinned (.plain (OpenSpec.upto setMakesSpec)) setMakesUptoCard

/-- THE SECOND FORM's CARD OF 'periscopelaw01.SetRuns'. -/
def setRunsUptoCard : Claim7 := { stood := { row := setRunsUptoRow, standIns := [], harness := (true, "8b07431920b14c2ae140ff6d01ec71f05b400187c5fe94b4a0d3a1f85618dade"), looks := false }, kinds := [], alts := [], laidByText := true, laidKinds := [.data], laidTests := true, laidLooks := .later }
def SetRunsUptoCardSaid : Prop := Claim7.holds Tryd.pinned (.plain (OpenSpec.upto setRunsSpec)) setRunsUptoCard

/-- THE SECOND FORM's CARD OF 'periscopelaw01.SetLaws'. -/
def setLawsUptoCard : Claim7 := { stood := { row := setLawsUptoRow, standIns := [], harness := (true, "8b07431920b14c2ae140ff6d01ec71f05b400187c5fe94b4a0d3a1f85618dade"), looks := false }, kinds := [], alts := [], laidByText := true, laidKinds := [.data], laidTests := true, laidLooks := .later }
def SetLawsUptoCardSaid : Prop := Claim7.holds Tryd.pinned (.plain (OpenSpec.upto setLawsSpec)) setLawsUptoCard

/-- THE SECOND FORM's CARD OF 'periscopelaw02.PartRefines'. -/
def partRefinesUptoCard : Claim7 := { stood := { row := partRefinesUptoRow, standIns := [], harness := (true, "8b07431920b14c2ae140ff6d01ec71f05b400187c5fe94b4a0d3a1f85618dade"), looks := false }, kinds := [], alts := [], laidByText := true, laidKinds := [.data], laidTests := true, laidLooks := .later }
def PartRefinesUptoCardSaid : Prop := Claim7.holds Tryd.pinned (.plain (OpenSpec.upto partRefinesSpec)) partRefinesUptoCard

/-- THE SECOND FORM's CARD OF 'periscopelaw02.PartOrders'. -/
def partOrdersUptoCard : Claim7 := { stood := { row := partOrdersUptoRow, standIns := [], harness := (true, "8b07431920b14c2ae140ff6d01ec71f05b400187c5fe94b4a0d3a1f85618dade"), looks := false }, kinds := [], alts := [], laidByText := true, laidKinds := [.data], laidTests := true, laidLooks := .later }
def PartOrdersUptoCardSaid : Prop := Claim7.holds Tryd.pinned (.plain (OpenSpec.upto partOrdersSpec)) partOrdersUptoCard

/-- THE SECOND FORM's CARD OF 'periscopelaw02.PartIndexes'. -/
def partIndexesUptoCard : Claim7 := { stood := { row := partIndexesUptoRow, standIns := [], harness := (true, "8b07431920b14c2ae140ff6d01ec71f05b400187c5fe94b4a0d3a1f85618dade"), looks := false }, kinds := [], alts := [], laidByText := true, laidKinds := [.data], laidTests := true, laidLooks := .later }
def PartIndexesUptoCardSaid : Prop := Claim7.holds Tryd.pinned (.plain (OpenSpec.upto partIndexesSpec)) partIndexesUptoCard

/-- THE SECOND FORM's CARD OF 'periscopelaw03.ReTexts'. -/
def reTextsUptoCard : Claim7 := { stood := { row := reTextsUptoRow, standIns := [], harness := (true, "8b07431920b14c2ae140ff6d01ec71f05b400187c5fe94b4a0d3a1f85618dade"), looks := false }, kinds := [], alts := [], laidByText := true, laidKinds := [.data], laidTests := true, laidLooks := .later }
def ReTextsUptoCardSaid : Prop := Claim7.holds Tryd.pinned (.plain (OpenSpec.upto reTextsSpec)) reTextsUptoCard

/-- THE SECOND FORM's CARD OF 'periscopelaw03.ReKeys'. -/
def reKeysUptoCard : Claim7 := { stood := { row := reKeysUptoRow, standIns := [], harness := (true, "8b07431920b14c2ae140ff6d01ec71f05b400187c5fe94b4a0d3a1f85618dade"), looks := false }, kinds := [], alts := [], laidByText := true, laidKinds := [.data], laidTests := true, laidLooks := .later }
def ReKeysUptoCardSaid : Prop := Claim7.holds Tryd.pinned (.plain (OpenSpec.upto reKeysSpec)) reKeysUptoCard

/-- THE SECOND FORM's CARD OF 'periscopelaw03.ReOrders'. -/
def reOrdersUptoCard : Claim7 := { stood := { row := reOrdersUptoRow, standIns := [], harness := (true, "8b07431920b14c2ae140ff6d01ec71f05b400187c5fe94b4a0d3a1f85618dade"), looks := false }, kinds := [], alts := [], laidByText := true, laidKinds := [.data], laidTests := true, laidLooks := .later }
def ReOrdersUptoCardSaid : Prop := Claim7.holds Tryd.pinned (.plain (OpenSpec.upto reOrdersSpec)) reOrdersUptoCard

/-- THE SECOND FORM's CARD OF 'periscopelaw03.ReWiths'. -/
def reWithsUptoCard : Claim7 := { stood := { row := reWithsUptoRow, standIns := [], harness := (true, "8b07431920b14c2ae140ff6d01ec71f05b400187c5fe94b4a0d3a1f85618dade"), looks := false }, kinds := [], alts := [], laidByText := true, laidKinds := [.data], laidTests := true, laidLooks := .later }
def ReWithsUptoCardSaid : Prop := Claim7.holds Tryd.pinned (.plain (OpenSpec.upto reWithsSpec)) reWithsUptoCard
end Rows
end Go.Proofs.YtfoamihjmmgnlaaDoor
