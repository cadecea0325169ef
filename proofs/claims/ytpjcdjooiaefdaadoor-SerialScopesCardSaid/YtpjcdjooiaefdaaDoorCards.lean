/-
  DERIVED. GIVEN WITH THE SEED: THE CARDS: each row of YtpjcdjooiaefdaaDoorRows.lean that lists a variable, with what it lists TIED to the program's text (the seventh form; the later family's looks); each row that meets fmt, with fmt's text TOLD by the authors' own Lean function (tested against real Go, not proved from fmt's source: count such statements apart). THE CARD IS WHAT COUNTS. Prove the row's statement (the work); the ties are given (YtpjcdjooiaefdaaDoorTie.lean); close each card by the builder's one call (the guide's Derived/Test/ToyasCard.lean, 'card_holds'). Laid BY PROGRAM, IN A SANDBOX (cutbox-door.mjs). By AI agents, Wed Nov 11 2026. No macro, syntax, notation, axiom, sorry.
-/
import Derived.Test.YtpjcdjooiaefdaaDoorRows
import GoSem.ClaimSeven
namespace Go.Proofs.YtpjcdjooiaefdaaDoor
namespace Rows

/-- THE TIED CARD OF 'pelotonlaw06.SerialFuel'. -/
def serialFuelCard : Claim7 := { stood := { row := serialFuelRow, standIns := [], harness := (true, "174b1860740127aad45aca68b093ab1eaa9a41f8c65de462a1d5aa092242e468"), looks := true }, kinds := [], alts := [], laidByText := true, laidKinds := [.data, .data], laidTests := true, laidLooks := .later }
def SerialFuelCardSaid : Prop := Claim7.holds Tryd.pinned (.plain (OpenSpec.ofChange serialFuelSpec)) serialFuelCard

/-- THE TIED CARD OF 'pelotonlaw06.SerialPlain'. -/
def serialPlainCard : Claim7 := { stood := { row := serialPlainRow, standIns := [], harness := (true, "174b1860740127aad45aca68b093ab1eaa9a41f8c65de462a1d5aa092242e468"), looks := true }, kinds := [], alts := [], laidByText := true, laidKinds := [.data, .data], laidTests := true, laidLooks := .later }
def SerialPlainCardSaid : Prop := Claim7.holds Tryd.pinned (.plain (OpenSpec.ofChange serialPlainSpec)) serialPlainCard

/-- THE TIED CARD OF 'pelotonlaw06.SerialTwice'. -/
def serialTwiceCard : Claim7 := { stood := { row := serialTwiceRow, standIns := [], harness := (true, "174b1860740127aad45aca68b093ab1eaa9a41f8c65de462a1d5aa092242e468"), looks := true }, kinds := [], alts := [], laidByText := true, laidKinds := [.data, .data], laidTests := true, laidLooks := .later }
def SerialTwiceCardSaid : Prop := Claim7.holds Tryd.pinned (.plain (OpenSpec.ofChange serialTwiceSpec)) serialTwiceCard

/-- THE TIED CARD OF 'pelotonlaw06.SerialScopes'. -/
def serialScopesCard : Claim7 := { stood := { row := serialScopesRow, standIns := [], harness := (true, "174b1860740127aad45aca68b093ab1eaa9a41f8c65de462a1d5aa092242e468"), looks := true }, kinds := [], alts := [], laidByText := true, laidKinds := [.data, .data], laidTests := true, laidLooks := .later }
def SerialScopesCardSaid : Prop := Claim7.holds Tryd.pinned (.plain (OpenSpec.ofChange serialScopesSpec)) serialScopesCard

/-- THE SECOND FORM's CARD OF 'pelotonlaw06.SerialFuel'. -/
def serialFuelUptoCard : Claim7 := { stood := { row := serialFuelUptoRow, standIns := [], harness := (true, "174b1860740127aad45aca68b093ab1eaa9a41f8c65de462a1d5aa092242e468"), looks := true }, kinds := [], alts := [], laidByText := true, laidKinds := [.data, .data], laidTests := true, laidLooks := .later }
def SerialFuelUptoCardSaid : Prop := Claim7.holds Tryd.pinned (.plain (OpenSpec.upto serialFuelSpec)) serialFuelUptoCard

/-- THE SECOND FORM's CARD OF 'pelotonlaw06.SerialPlain'. -/
def serialPlainUptoCard : Claim7 := { stood := { row := serialPlainUptoRow, standIns := [], harness := (true, "174b1860740127aad45aca68b093ab1eaa9a41f8c65de462a1d5aa092242e468"), looks := true }, kinds := [], alts := [], laidByText := true, laidKinds := [.data, .data], laidTests := true, laidLooks := .later }
def SerialPlainUptoCardSaid : Prop := Claim7.holds Tryd.pinned (.plain (OpenSpec.upto serialPlainSpec)) serialPlainUptoCard

/-- THE SECOND FORM's CARD OF 'pelotonlaw06.SerialTwice'. -/
def serialTwiceUptoCard : Claim7 := { stood := { row := serialTwiceUptoRow, standIns := [], harness := (true, "174b1860740127aad45aca68b093ab1eaa9a41f8c65de462a1d5aa092242e468"), looks := true }, kinds := [], alts := [], laidByText := true, laidKinds := [.data, .data], laidTests := true, laidLooks := .later }
def SerialTwiceUptoCardSaid : Prop := Claim7.holds Tryd.pinned (.plain (OpenSpec.upto serialTwiceSpec)) serialTwiceUptoCard

/-- THE SECOND FORM's CARD OF 'pelotonlaw06.SerialScopes'. -/
def serialScopesUptoCard : Claim7 := { stood := { row := serialScopesUptoRow, standIns := [], harness := (true, "174b1860740127aad45aca68b093ab1eaa9a41f8c65de462a1d5aa092242e468"), looks := true }, kinds := [], alts := [], laidByText := true, laidKinds := [.data, .data], laidTests := true, laidLooks := .later }
def SerialScopesUptoCardSaid : Prop := Claim7.holds Tryd.pinned (.plain (OpenSpec.upto serialScopesSpec)) serialScopesUptoCard
end Rows
end Go.Proofs.YtpjcdjooiaefdaaDoor
