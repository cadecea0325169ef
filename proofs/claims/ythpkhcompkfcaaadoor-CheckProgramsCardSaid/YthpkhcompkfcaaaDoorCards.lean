/-
  DERIVED. GIVEN WITH THE SEED: THE CARDS: each row of YthpkhcompkfcaaaDoorRows.lean that lists a variable, with what it lists TIED to the program's text (the seventh form; the later family's looks); each row that meets fmt, with fmt's text TOLD by the authors' own Lean function (tested against real Go, not proved from fmt's source: count such statements apart). THE CARD IS WHAT COUNTS. Prove the row's statement (the work); the ties are given (YthpkhcompkfcaaaDoorTie.lean); close each card by the builder's one call (the guide's Derived/Test/ToyasCard.lean, 'card_holds'). Laid BY PROGRAM, IN A SANDBOX (cutbox-door.mjs). By AI agents, Wed Nov 11 2026. No macro, syntax, notation, axiom, sorry.
-/
import Derived.Test.YthpkhcompkfcaaaDoorRows
import GoSem.ClaimSeven
namespace Go.Proofs.YthpkhcompkfcaaaDoor
namespace Rows

/-- THE TIED CARD OF 'pelotonlaw04.CheckDepths'. -/
def checkDepthsCard : Claim7 := { stood := { row := checkDepthsRow, standIns := [], harness := (true, "a2c08b82e2be4bdc899ce16a59f9129f3834dbb2bf7f80d5c6e3df6bc4baaa11"), looks := false }, kinds := [], alts := [], laidByText := true, laidKinds := [.data, .data], laidTests := true, laidLooks := .later }
def CheckDepthsCardSaid : Prop := Claim7.holds Tryd.pinned (.plain (OpenSpec.ofChange checkDepthsSpec)) checkDepthsCard

/-- THE TIED CARD OF 'pelotonlaw04.CheckHeld'. -/
def checkHeldCard : Claim7 := { stood := { row := checkHeldRow, standIns := [], harness := (true, "a2c08b82e2be4bdc899ce16a59f9129f3834dbb2bf7f80d5c6e3df6bc4baaa11"), looks := false }, kinds := [], alts := [], laidByText := true, laidKinds := [.data, .data], laidTests := true, laidLooks := .later }
def CheckHeldCardSaid : Prop := Claim7.holds Tryd.pinned (.plain (OpenSpec.ofChange checkHeldSpec)) checkHeldCard

/-- THE TIED CARD OF 'pelotonlaw04.CheckPrograms'. -/
def checkProgramsCard : Claim7 := { stood := { row := checkProgramsRow, standIns := [], harness := (true, "a2c08b82e2be4bdc899ce16a59f9129f3834dbb2bf7f80d5c6e3df6bc4baaa11"), looks := false }, kinds := [], alts := [], laidByText := true, laidKinds := [.data, .data], laidTests := true, laidLooks := .later }
def CheckProgramsCardSaid : Prop := Claim7.holds Tryd.pinned (.plain (OpenSpec.ofChange checkProgramsSpec)) checkProgramsCard

/-- THE TIED CARD OF 'pelotonlaw04.CheckHolds'. -/
def checkHoldsCard : Claim7 := { stood := { row := checkHoldsRow, standIns := [], harness := (true, "a2c08b82e2be4bdc899ce16a59f9129f3834dbb2bf7f80d5c6e3df6bc4baaa11"), looks := false }, kinds := [], alts := [], laidByText := true, laidKinds := [.data, .data], laidTests := true, laidLooks := .later }
def CheckHoldsCardSaid : Prop := Claim7.holds Tryd.pinned (.plain (OpenSpec.ofChange checkHoldsSpec)) checkHoldsCard

/-- THE TIED CARD OF 'pelotonlaw04.CheckNeeds'. -/
def checkNeedsCard : Claim7 := { stood := { row := checkNeedsRow, standIns := [], harness := (true, "a2c08b82e2be4bdc899ce16a59f9129f3834dbb2bf7f80d5c6e3df6bc4baaa11"), looks := false }, kinds := [], alts := [], laidByText := true, laidKinds := [.data, .data], laidTests := true, laidLooks := .later }
def CheckNeedsCardSaid : Prop := Claim7.holds Tryd.pinned (.plain (OpenSpec.ofChange checkNeedsSpec)) checkNeedsCard

/-- THE TIED CARD OF 'pelotonlaw04.CheckMoves'. -/
def checkMovesCard : Claim7 := { stood := { row := checkMovesRow, standIns := [], harness := (true, "a2c08b82e2be4bdc899ce16a59f9129f3834dbb2bf7f80d5c6e3df6bc4baaa11"), looks := false }, kinds := [], alts := [], laidByText := true, laidKinds := [.data, .data], laidTests := true, laidLooks := .later }
def CheckMovesCardSaid : Prop := Claim7.holds Tryd.pinned (.plain (OpenSpec.ofChange checkMovesSpec)) checkMovesCard

/-- THE TIED CARD OF 'pelotonlaw04.CheckDead'. -/
def checkDeadCard : Claim7 := { stood := { row := checkDeadRow, standIns := [], harness := (true, "a2c08b82e2be4bdc899ce16a59f9129f3834dbb2bf7f80d5c6e3df6bc4baaa11"), looks := false }, kinds := [], alts := [], laidByText := true, laidKinds := [.data, .data], laidTests := true, laidLooks := .later }
def CheckDeadCardSaid : Prop := Claim7.holds Tryd.pinned (.plain (OpenSpec.ofChange checkDeadSpec)) checkDeadCard

/-- THE SECOND FORM's CARD OF 'pelotonlaw04.CheckDepths'. -/
def checkDepthsUptoCard : Claim7 := { stood := { row := checkDepthsUptoRow, standIns := [], harness := (true, "a2c08b82e2be4bdc899ce16a59f9129f3834dbb2bf7f80d5c6e3df6bc4baaa11"), looks := false }, kinds := [], alts := [], laidByText := true, laidKinds := [.data, .data], laidTests := true, laidLooks := .later }
def CheckDepthsUptoCardSaid : Prop := Claim7.holds Tryd.pinned (.plain (OpenSpec.upto checkDepthsSpec)) checkDepthsUptoCard

/-- THE SECOND FORM's CARD OF 'pelotonlaw04.CheckHeld'. -/
def checkHeldUptoCard : Claim7 := { stood := { row := checkHeldUptoRow, standIns := [], harness := (true, "a2c08b82e2be4bdc899ce16a59f9129f3834dbb2bf7f80d5c6e3df6bc4baaa11"), looks := false }, kinds := [], alts := [], laidByText := true, laidKinds := [.data, .data], laidTests := true, laidLooks := .later }
def CheckHeldUptoCardSaid : Prop := Claim7.holds Tryd.pinned (.plain (OpenSpec.upto checkHeldSpec)) checkHeldUptoCard

/-- THE SECOND FORM's CARD OF 'pelotonlaw04.CheckPrograms'. -/
def checkProgramsUptoCard : Claim7 := { stood := { row := checkProgramsUptoRow, standIns := [], harness := (true, "a2c08b82e2be4bdc899ce16a59f9129f3834dbb2bf7f80d5c6e3df6bc4baaa11"), looks := false }, kinds := [], alts := [], laidByText := true, laidKinds := [.data, .data], laidTests := true, laidLooks := .later }
def CheckProgramsUptoCardSaid : Prop := Claim7.holds Tryd.pinned (.plain (OpenSpec.upto checkProgramsSpec)) checkProgramsUptoCard

/-- THE SECOND FORM's CARD OF 'pelotonlaw04.CheckHolds'. -/
def checkHoldsUptoCard : Claim7 := { stood := { row := checkHoldsUptoRow, standIns := [], harness := (true, "a2c08b82e2be4bdc899ce16a59f9129f3834dbb2bf7f80d5c6e3df6bc4baaa11"), looks := false }, kinds := [], alts := [], laidByText := true, laidKinds := [.data, .data], laidTests := true, laidLooks := .later }
def CheckHoldsUptoCardSaid : Prop := Claim7.holds Tryd.pinned (.plain (OpenSpec.upto checkHoldsSpec)) checkHoldsUptoCard

/-- THE SECOND FORM's CARD OF 'pelotonlaw04.CheckNeeds'. -/
def checkNeedsUptoCard : Claim7 := { stood := { row := checkNeedsUptoRow, standIns := [], harness := (true, "a2c08b82e2be4bdc899ce16a59f9129f3834dbb2bf7f80d5c6e3df6bc4baaa11"), looks := false }, kinds := [], alts := [], laidByText := true, laidKinds := [.data, .data], laidTests := true, laidLooks := .later }
def CheckNeedsUptoCardSaid : Prop := Claim7.holds Tryd.pinned (.plain (OpenSpec.upto checkNeedsSpec)) checkNeedsUptoCard

/-- THE SECOND FORM's CARD OF 'pelotonlaw04.CheckMoves'. -/
def checkMovesUptoCard : Claim7 := { stood := { row := checkMovesUptoRow, standIns := [], harness := (true, "a2c08b82e2be4bdc899ce16a59f9129f3834dbb2bf7f80d5c6e3df6bc4baaa11"), looks := false }, kinds := [], alts := [], laidByText := true, laidKinds := [.data, .data], laidTests := true, laidLooks := .later }
def CheckMovesUptoCardSaid : Prop := Claim7.holds Tryd.pinned (.plain (OpenSpec.upto checkMovesSpec)) checkMovesUptoCard

/-- THE SECOND FORM's CARD OF 'pelotonlaw04.CheckDead'. -/
def checkDeadUptoCard : Claim7 := { stood := { row := checkDeadUptoRow, standIns := [], harness := (true, "a2c08b82e2be4bdc899ce16a59f9129f3834dbb2bf7f80d5c6e3df6bc4baaa11"), looks := false }, kinds := [], alts := [], laidByText := true, laidKinds := [.data, .data], laidTests := true, laidLooks := .later }
def CheckDeadUptoCardSaid : Prop := Claim7.holds Tryd.pinned (.plain (OpenSpec.upto checkDeadSpec)) checkDeadUptoCard
end Rows
end Go.Proofs.YthpkhcompkfcaaaDoor
