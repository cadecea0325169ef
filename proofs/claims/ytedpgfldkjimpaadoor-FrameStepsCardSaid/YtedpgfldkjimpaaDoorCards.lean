/-
  DERIVED. GIVEN WITH THE SEED: THE CARDS: each row of YtedpgfldkjimpaaDoorRows.lean that lists a variable, with what it lists TIED to the program's text (the seventh form; the later family's looks); each row that meets fmt, with fmt's text TOLD by the authors' own Lean function (tested against real Go, not proved from fmt's source: count such statements apart). THE CARD IS WHAT COUNTS. Prove the row's statement (the work); the ties are given (YtedpgfldkjimpaaDoorTie.lean); close each card by the builder's one call (the guide's Derived/Test/ToyasCard.lean, 'card_holds'). Laid BY PROGRAM, IN A SANDBOX (cutbox-door.mjs). By AI agents, Wed Nov 11 2026. No macro, syntax, notation, axiom, sorry.
-/
import Derived.Test.YtedpgfldkjimpaaDoorRows
import GoSem.ClaimSeven
namespace Go.Proofs.YtedpgfldkjimpaaDoor
namespace Rows

/-- THE TIED CARD OF 'pelotonlaw05.FramePlain'. -/
def framePlainCard : Claim7 := { stood := { row := framePlainRow, standIns := [], harness := (true, "a120517aa9deda2c680bfb3646bc9334f5d7c002e7d8eb2258e465c38be82f00"), looks := false }, kinds := [], alts := [], laidByText := true, laidKinds := [.data, .data], laidTests := true, laidLooks := .later }
def FramePlainCardSaid : Prop := Claim7.holds Tryd.pinned (.plain (OpenSpec.ofChange framePlainSpec)) framePlainCard

/-- THE TIED CARD OF 'pelotonlaw05.FrameForks'. -/
def frameForksCard : Claim7 := { stood := { row := frameForksRow, standIns := [], harness := (true, "a120517aa9deda2c680bfb3646bc9334f5d7c002e7d8eb2258e465c38be82f00"), looks := false }, kinds := [], alts := [], laidByText := true, laidKinds := [.data, .data], laidTests := true, laidLooks := .later }
def FrameForksCardSaid : Prop := Claim7.holds Tryd.pinned (.plain (OpenSpec.ofChange frameForksSpec)) frameForksCard

/-- THE TIED CARD OF 'pelotonlaw05.FrameJoins'. -/
def frameJoinsCard : Claim7 := { stood := { row := frameJoinsRow, standIns := [], harness := (true, "a120517aa9deda2c680bfb3646bc9334f5d7c002e7d8eb2258e465c38be82f00"), looks := false }, kinds := [], alts := [], laidByText := true, laidKinds := [.data, .data], laidTests := true, laidLooks := .later }
def FrameJoinsCardSaid : Prop := Claim7.holds Tryd.pinned (.plain (OpenSpec.ofChange frameJoinsSpec)) frameJoinsCard

/-- THE TIED CARD OF 'pelotonlaw05.FramePasses'. -/
def framePassesCard : Claim7 := { stood := { row := framePassesRow, standIns := [], harness := (true, "a120517aa9deda2c680bfb3646bc9334f5d7c002e7d8eb2258e465c38be82f00"), looks := false }, kinds := [], alts := [], laidByText := true, laidKinds := [.data, .data], laidTests := true, laidLooks := .later }
def FramePassesCardSaid : Prop := Claim7.holds Tryd.pinned (.plain (OpenSpec.ofChange framePassesSpec)) framePassesCard

/-- THE TIED CARD OF 'pelotonlaw05.FrameSteps'. -/
def frameStepsCard : Claim7 := { stood := { row := frameStepsRow, standIns := [], harness := (true, "a120517aa9deda2c680bfb3646bc9334f5d7c002e7d8eb2258e465c38be82f00"), looks := false }, kinds := [], alts := [], laidByText := true, laidKinds := [.data, .data], laidTests := true, laidLooks := .later }
def FrameStepsCardSaid : Prop := Claim7.holds Tryd.pinned (.plain (OpenSpec.ofChange frameStepsSpec)) frameStepsCard

/-- THE TIED CARD OF 'pelotonlaw05.FrameRing'. -/
def frameRingCard : Claim7 := { stood := { row := frameRingRow, standIns := [], harness := (true, "a120517aa9deda2c680bfb3646bc9334f5d7c002e7d8eb2258e465c38be82f00"), looks := false }, kinds := [], alts := [], laidByText := true, laidKinds := [.data, .data], laidTests := true, laidLooks := .later }
def FrameRingCardSaid : Prop := Claim7.holds Tryd.pinned (.plain (OpenSpec.ofChange frameRingSpec)) frameRingCard

/-- THE TIED CARD OF 'pelotonlaw05.FrameLess'. -/
def frameLessCard : Claim7 := { stood := { row := frameLessRow, standIns := [], harness := (true, "a120517aa9deda2c680bfb3646bc9334f5d7c002e7d8eb2258e465c38be82f00"), looks := false }, kinds := [], alts := [], laidByText := true, laidKinds := [.data, .data], laidTests := true, laidLooks := .later }
def FrameLessCardSaid : Prop := Claim7.holds Tryd.pinned (.plain (OpenSpec.ofChange frameLessSpec)) frameLessCard

/-- THE TIED CARD OF 'pelotonlaw05.FrameBlind'. -/
def frameBlindCard : Claim7 := { stood := { row := frameBlindRow, standIns := [], harness := (true, "a120517aa9deda2c680bfb3646bc9334f5d7c002e7d8eb2258e465c38be82f00"), looks := false }, kinds := [], alts := [], laidByText := true, laidKinds := [.data, .data], laidTests := true, laidLooks := .later }
def FrameBlindCardSaid : Prop := Claim7.holds Tryd.pinned (.plain (OpenSpec.ofChange frameBlindSpec)) frameBlindCard

/-- THE SECOND FORM's CARD OF 'pelotonlaw05.FramePlain'. -/
def framePlainUptoCard : Claim7 := { stood := { row := framePlainUptoRow, standIns := [], harness := (true, "a120517aa9deda2c680bfb3646bc9334f5d7c002e7d8eb2258e465c38be82f00"), looks := false }, kinds := [], alts := [], laidByText := true, laidKinds := [.data, .data], laidTests := true, laidLooks := .later }
def FramePlainUptoCardSaid : Prop := Claim7.holds Tryd.pinned (.plain (OpenSpec.upto framePlainSpec)) framePlainUptoCard

/-- THE SECOND FORM's CARD OF 'pelotonlaw05.FrameForks'. -/
def frameForksUptoCard : Claim7 := { stood := { row := frameForksUptoRow, standIns := [], harness := (true, "a120517aa9deda2c680bfb3646bc9334f5d7c002e7d8eb2258e465c38be82f00"), looks := false }, kinds := [], alts := [], laidByText := true, laidKinds := [.data, .data], laidTests := true, laidLooks := .later }
def FrameForksUptoCardSaid : Prop := Claim7.holds Tryd.pinned (.plain (OpenSpec.upto frameForksSpec)) frameForksUptoCard

/-- THE SECOND FORM's CARD OF 'pelotonlaw05.FrameJoins'. -/
def frameJoinsUptoCard : Claim7 := { stood := { row := frameJoinsUptoRow, standIns := [], harness := (true, "a120517aa9deda2c680bfb3646bc9334f5d7c002e7d8eb2258e465c38be82f00"), looks := false }, kinds := [], alts := [], laidByText := true, laidKinds := [.data, .data], laidTests := true, laidLooks := .later }
def FrameJoinsUptoCardSaid : Prop := Claim7.holds Tryd.pinned (.plain (OpenSpec.upto frameJoinsSpec)) frameJoinsUptoCard

/-- THE SECOND FORM's CARD OF 'pelotonlaw05.FramePasses'. -/
def framePassesUptoCard : Claim7 := { stood := { row := framePassesUptoRow, standIns := [], harness := (true, "a120517aa9deda2c680bfb3646bc9334f5d7c002e7d8eb2258e465c38be82f00"), looks := false }, kinds := [], alts := [], laidByText := true, laidKinds := [.data, .data], laidTests := true, laidLooks := .later }
def FramePassesUptoCardSaid : Prop := Claim7.holds Tryd.pinned (.plain (OpenSpec.upto framePassesSpec)) framePassesUptoCard

/-- THE SECOND FORM's CARD OF 'pelotonlaw05.FrameSteps'. -/
def frameStepsUptoCard : Claim7 := { stood := { row := frameStepsUptoRow, standIns := [], harness := (true, "a120517aa9deda2c680bfb3646bc9334f5d7c002e7d8eb2258e465c38be82f00"), looks := false }, kinds := [], alts := [], laidByText := true, laidKinds := [.data, .data], laidTests := true, laidLooks := .later }
def FrameStepsUptoCardSaid : Prop := Claim7.holds Tryd.pinned (.plain (OpenSpec.upto frameStepsSpec)) frameStepsUptoCard

/-- THE SECOND FORM's CARD OF 'pelotonlaw05.FrameRing'. -/
def frameRingUptoCard : Claim7 := { stood := { row := frameRingUptoRow, standIns := [], harness := (true, "a120517aa9deda2c680bfb3646bc9334f5d7c002e7d8eb2258e465c38be82f00"), looks := false }, kinds := [], alts := [], laidByText := true, laidKinds := [.data, .data], laidTests := true, laidLooks := .later }
def FrameRingUptoCardSaid : Prop := Claim7.holds Tryd.pinned (.plain (OpenSpec.upto frameRingSpec)) frameRingUptoCard

/-- THE SECOND FORM's CARD OF 'pelotonlaw05.FrameLess'. -/
def frameLessUptoCard : Claim7 := { stood := { row := frameLessUptoRow, standIns := [], harness := (true, "a120517aa9deda2c680bfb3646bc9334f5d7c002e7d8eb2258e465c38be82f00"), looks := false }, kinds := [], alts := [], laidByText := true, laidKinds := [.data, .data], laidTests := true, laidLooks := .later }
def FrameLessUptoCardSaid : Prop := Claim7.holds Tryd.pinned (.plain (OpenSpec.upto frameLessSpec)) frameLessUptoCard

/-- THE SECOND FORM's CARD OF 'pelotonlaw05.FrameBlind'. -/
def frameBlindUptoCard : Claim7 := { stood := { row := frameBlindUptoRow, standIns := [], harness := (true, "a120517aa9deda2c680bfb3646bc9334f5d7c002e7d8eb2258e465c38be82f00"), looks := false }, kinds := [], alts := [], laidByText := true, laidKinds := [.data, .data], laidTests := true, laidLooks := .later }
def FrameBlindUptoCardSaid : Prop := Claim7.holds Tryd.pinned (.plain (OpenSpec.upto frameBlindSpec)) frameBlindUptoCard
end Rows
end Go.Proofs.YtedpgfldkjimpaaDoor
