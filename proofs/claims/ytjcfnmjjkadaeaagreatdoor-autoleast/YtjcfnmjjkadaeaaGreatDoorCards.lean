/-
  DERIVED. GIVEN WITH THE SEED: THE CARDS: each row of YtjcfnmjjkadaeaaGreatDoorRows.lean that lists a variable, with what it lists TIED to the program's text (the seventh form; the later family's looks); each row that meets fmt, with fmt's text TOLD by the authors' own Lean function (tested against real Go, not proved from fmt's source: count such statements apart). THE CARD IS WHAT COUNTS. Prove the row's statement (the work); the ties are given (YtjcfnmjjkadaeaaGreatDoorTie.lean); close each card by the builder's one call (the guide's Derived/Test/ToyasCard.lean, 'card_holds'). Laid BY PROGRAM, IN A SANDBOX (cutbox-door.mjs). By AI agents, Wed Nov 11 2026. No macro, syntax, notation, axiom, sorry.
-/
import Derived.Test.YtjcfnmjjkadaeaaGreatDoorRows
import GoSem.ClaimSeven
namespace Go.Proofs.YtjcfnmjjkadaeaaGreatDoor
namespace Rows

/-- THE TIED CARD OF 'periscopelaw06.DfaLives'. -/
def dfaLivesCard : Claim7 := { stood := { row := dfaLivesRow, standIns := [], harness := (true, "f56811201e37cb2a261a95ef9709572e5f204a3f58b85bb13ef67d084b4bb433"), looks := false }, kinds := [], alts := [], laidByText := true, laidKinds := [.data], laidTests := true, laidLooks := .later }
def DfaLivesCardSaid : Prop := Claim7.holds Tryz.pinned (.plain (OpenSpec.ofChange dfaLivesSpec)) dfaLivesCard

/-- THE TIED CARD OF 'periscopelaw07.AutoWitness'. -/
def autoWitnessCard : Claim7 := { stood := { row := autoWitnessRow, standIns := [], harness := (true, "f56811201e37cb2a261a95ef9709572e5f204a3f58b85bb13ef67d084b4bb433"), looks := false }, kinds := [], alts := [], laidByText := true, laidKinds := [.data], laidTests := true, laidLooks := .later }
def AutoWitnessCardSaid : Prop := Claim7.holds Tryz.pinned (.plain (OpenSpec.ofChange autoWitnessSpec)) autoWitnessCard

/-- THE TIED CARD OF 'periscopelaw07.AutoPairs'. -/
def autoPairsCard : Claim7 := { stood := { row := autoPairsRow, standIns := [], harness := (true, "f56811201e37cb2a261a95ef9709572e5f204a3f58b85bb13ef67d084b4bb433"), looks := false }, kinds := [], alts := [], laidByText := true, laidKinds := [.data], laidTests := true, laidLooks := .later }
def AutoPairsCardSaid : Prop := Claim7.holds Tryz.pinned (.plain (OpenSpec.ofChange autoPairsSpec)) autoPairsCard

/-- THE TIED CARD OF 'periscopelaw07.AutoGroups'. -/
def autoGroupsCard : Claim7 := { stood := { row := autoGroupsRow, standIns := [], harness := (true, "f56811201e37cb2a261a95ef9709572e5f204a3f58b85bb13ef67d084b4bb433"), looks := false }, kinds := [], alts := [], laidByText := true, laidKinds := [.data], laidTests := true, laidLooks := .later }
def AutoGroupsCardSaid : Prop := Claim7.holds Tryz.pinned (.plain (OpenSpec.ofChange autoGroupsSpec)) autoGroupsCard

/-- THE TIED CARD OF 'periscopelaw07.AutoLeast'. -/
def autoLeastCard : Claim7 := { stood := { row := autoLeastRow, standIns := [], harness := (true, "f56811201e37cb2a261a95ef9709572e5f204a3f58b85bb13ef67d084b4bb433"), looks := false }, kinds := [], alts := [], laidByText := true, laidKinds := [.data], laidTests := true, laidLooks := .later }
def AutoLeastCardSaid : Prop := Claim7.holds Tryz.pinned (.plain (OpenSpec.ofChange autoLeastSpec)) autoLeastCard

/-- THE SECOND FORM's CARD OF 'periscopelaw06.DfaLives'. -/
def dfaLivesUptoCard : Claim7 := { stood := { row := dfaLivesUptoRow, standIns := [], harness := (true, "f56811201e37cb2a261a95ef9709572e5f204a3f58b85bb13ef67d084b4bb433"), looks := false }, kinds := [], alts := [], laidByText := true, laidKinds := [.data], laidTests := true, laidLooks := .later }
def DfaLivesUptoCardSaid : Prop := Claim7.holds Tryz.pinned (.plain (OpenSpec.upto dfaLivesSpec)) dfaLivesUptoCard

/-- THE SECOND FORM's CARD OF 'periscopelaw07.AutoWitness'. -/
def autoWitnessUptoCard : Claim7 := { stood := { row := autoWitnessUptoRow, standIns := [], harness := (true, "f56811201e37cb2a261a95ef9709572e5f204a3f58b85bb13ef67d084b4bb433"), looks := false }, kinds := [], alts := [], laidByText := true, laidKinds := [.data], laidTests := true, laidLooks := .later }
def AutoWitnessUptoCardSaid : Prop := Claim7.holds Tryz.pinned (.plain (OpenSpec.upto autoWitnessSpec)) autoWitnessUptoCard

/-- THE SECOND FORM's CARD OF 'periscopelaw07.AutoPairs'. -/
def autoPairsUptoCard : Claim7 := { stood := { row := autoPairsUptoRow, standIns := [], harness := (true, "f56811201e37cb2a261a95ef9709572e5f204a3f58b85bb13ef67d084b4bb433"), looks := false }, kinds := [], alts := [], laidByText := true, laidKinds := [.data], laidTests := true, laidLooks := .later }
def AutoPairsUptoCardSaid : Prop := Claim7.holds Tryz.pinned (.plain (OpenSpec.upto autoPairsSpec)) autoPairsUptoCard

/-- THE SECOND FORM's CARD OF 'periscopelaw07.AutoGroups'. -/
def autoGroupsUptoCard : Claim7 := { stood := { row := autoGroupsUptoRow, standIns := [], harness := (true, "f56811201e37cb2a261a95ef9709572e5f204a3f58b85bb13ef67d084b4bb433"), looks := false }, kinds := [], alts := [], laidByText := true, laidKinds := [.data], laidTests := true, laidLooks := .later }
def AutoGroupsUptoCardSaid : Prop := Claim7.holds Tryz.pinned (.plain (OpenSpec.upto autoGroupsSpec)) autoGroupsUptoCard

/-- THE SECOND FORM's CARD OF 'periscopelaw07.AutoLeast'. -/
def autoLeastUptoCard : Claim7 := { stood := { row := autoLeastUptoRow, standIns := [], harness := (true, "f56811201e37cb2a261a95ef9709572e5f204a3f58b85bb13ef67d084b4bb433"), looks := false }, kinds := [], alts := [], laidByText := true, laidKinds := [.data], laidTests := true, laidLooks := .later }
def AutoLeastUptoCardSaid : Prop := Claim7.holds Tryz.pinned (.plain (OpenSpec.upto autoLeastSpec)) autoLeastUptoCard
end Rows
end Go.Proofs.YtjcfnmjjkadaeaaGreatDoor
