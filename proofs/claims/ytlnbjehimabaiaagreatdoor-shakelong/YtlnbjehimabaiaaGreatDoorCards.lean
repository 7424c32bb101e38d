/-
  DERIVED. GIVEN WITH THE SEED: THE CARDS: each row of YtlnbjehimabaiaaGreatDoorRows.lean that lists a variable, with what it lists TIED to the program's text (the seventh form; the later family's looks); each row that meets fmt, with fmt's text TOLD by the authors' own Lean function (tested against real Go, not proved from fmt's source: count such statements apart). THE CARD IS WHAT COUNTS. Prove the row's statement (the work); the ties are given (YtlnbjehimabaiaaGreatDoorTie.lean); close each card by the builder's one call (the guide's Derived/Test/ToyasCard.lean, 'card_holds'). Laid BY PROGRAM, IN A SANDBOX (cutbox-door.mjs). By AI agents, Wed Nov 11 2026. No macro, syntax, notation, axiom, sorry.
-/
import Derived.Test.YtlnbjehimabaiaaGreatDoorRows
import GoSem.ClaimSeven
namespace Go.Proofs.YtlnbjehimabaiaaGreatDoor
namespace Rows

/-- THE TIED CARD OF 'portholelaw11.ShakeKnown'. -/
def shakeKnownCard : Claim7 := { stood := { row := shakeKnownRow, standIns := [], harness := (true, "49ba396f87603ca6e7c2a17c87da81ecf12da2b44bce433b839f9320b01c07b3"), looks := false }, kinds := [], alts := [], laidByText := true, laidKinds := [.data, .data, .data], laidTests := true, laidLooks := .later }
def ShakeKnownCardSaid : Prop := Claim7.holds Tryz.pinned (.plain (OpenSpec.ofChange shakeKnownSpec)) shakeKnownCard

/-- THE TIED CARD OF 'portholelaw11.ShakePlays'. -/
def shakePlaysCard : Claim7 := { stood := { row := shakePlaysRow, standIns := [], harness := (true, "49ba396f87603ca6e7c2a17c87da81ecf12da2b44bce433b839f9320b01c07b3"), looks := false }, kinds := [], alts := [], laidByText := true, laidKinds := [.data, .data, .data, .data, .data, .data, .data], laidTests := true, laidLooks := .later }
def ShakePlaysCardSaid : Prop := Claim7.holds Tryz.pinned (.plain (OpenSpec.ofChange shakePlaysSpec)) shakePlaysCard

/-- THE TIED CARD OF 'portholelaw11.ShakeAgrees'. -/
def shakeAgreesCard : Claim7 := { stood := { row := shakeAgreesRow, standIns := [], harness := (true, "49ba396f87603ca6e7c2a17c87da81ecf12da2b44bce433b839f9320b01c07b3"), looks := false }, kinds := [], alts := [], laidByText := true, laidKinds := [.data, .data, .data], laidTests := true, laidLooks := .later }
def ShakeAgreesCardSaid : Prop := Claim7.holds Tryz.pinned (.plain (OpenSpec.ofChange shakeAgreesSpec)) shakeAgreesCard

/-- THE TIED CARD OF 'portholelaw11.ShakeTurns'. -/
def shakeTurnsCard : Claim7 := { stood := { row := shakeTurnsRow, standIns := [], harness := (true, "49ba396f87603ca6e7c2a17c87da81ecf12da2b44bce433b839f9320b01c07b3"), looks := false }, kinds := [], alts := [], laidByText := true, laidKinds := [.data, .data, .data], laidTests := true, laidLooks := .later }
def ShakeTurnsCardSaid : Prop := Claim7.holds Tryz.pinned (.plain (OpenSpec.ofChange shakeTurnsSpec)) shakeTurnsCard

/-- THE TIED CARD OF 'portholelaw11.ShakeLong'. -/
def shakeLongCard : Claim7 := { stood := { row := shakeLongRow, standIns := [], harness := (true, "49ba396f87603ca6e7c2a17c87da81ecf12da2b44bce433b839f9320b01c07b3"), looks := false }, kinds := [], alts := [], laidByText := true, laidKinds := [.data, .data, .data], laidTests := true, laidLooks := .later }
def ShakeLongCardSaid : Prop := Claim7.holds Tryz.pinned (.plain (OpenSpec.ofChange shakeLongSpec)) shakeLongCard

/-- THE SECOND FORM's CARD OF 'portholelaw11.ShakeKnown'. -/
def shakeKnownUptoCard : Claim7 := { stood := { row := shakeKnownUptoRow, standIns := [], harness := (true, "49ba396f87603ca6e7c2a17c87da81ecf12da2b44bce433b839f9320b01c07b3"), looks := false }, kinds := [], alts := [], laidByText := true, laidKinds := [.data, .data, .data], laidTests := true, laidLooks := .later }
def ShakeKnownUptoCardSaid : Prop := Claim7.holds Tryz.pinned (.plain (OpenSpec.upto shakeKnownSpec)) shakeKnownUptoCard

/-- THE SECOND FORM's CARD OF 'portholelaw11.ShakePlays'. -/
def shakePlaysUptoCard : Claim7 := { stood := { row := shakePlaysUptoRow, standIns := [], harness := (true, "49ba396f87603ca6e7c2a17c87da81ecf12da2b44bce433b839f9320b01c07b3"), looks := false }, kinds := [], alts := [], laidByText := true, laidKinds := [.data, .data, .data, .data, .data, .data, .data], laidTests := true, laidLooks := .later }
def ShakePlaysUptoCardSaid : Prop := Claim7.holds Tryz.pinned (.plain (OpenSpec.upto shakePlaysSpec)) shakePlaysUptoCard

/-- THE SECOND FORM's CARD OF 'portholelaw11.ShakeAgrees'. -/
def shakeAgreesUptoCard : Claim7 := { stood := { row := shakeAgreesUptoRow, standIns := [], harness := (true, "49ba396f87603ca6e7c2a17c87da81ecf12da2b44bce433b839f9320b01c07b3"), looks := false }, kinds := [], alts := [], laidByText := true, laidKinds := [.data, .data, .data], laidTests := true, laidLooks := .later }
def ShakeAgreesUptoCardSaid : Prop := Claim7.holds Tryz.pinned (.plain (OpenSpec.upto shakeAgreesSpec)) shakeAgreesUptoCard

/-- THE SECOND FORM's CARD OF 'portholelaw11.ShakeTurns'. -/
def shakeTurnsUptoCard : Claim7 := { stood := { row := shakeTurnsUptoRow, standIns := [], harness := (true, "49ba396f87603ca6e7c2a17c87da81ecf12da2b44bce433b839f9320b01c07b3"), looks := false }, kinds := [], alts := [], laidByText := true, laidKinds := [.data, .data, .data], laidTests := true, laidLooks := .later }
def ShakeTurnsUptoCardSaid : Prop := Claim7.holds Tryz.pinned (.plain (OpenSpec.upto shakeTurnsSpec)) shakeTurnsUptoCard

/-- THE SECOND FORM's CARD OF 'portholelaw11.ShakeLong'. -/
def shakeLongUptoCard : Claim7 := { stood := { row := shakeLongUptoRow, standIns := [], harness := (true, "49ba396f87603ca6e7c2a17c87da81ecf12da2b44bce433b839f9320b01c07b3"), looks := false }, kinds := [], alts := [], laidByText := true, laidKinds := [.data, .data, .data], laidTests := true, laidLooks := .later }
def ShakeLongUptoCardSaid : Prop := Claim7.holds Tryz.pinned (.plain (OpenSpec.upto shakeLongSpec)) shakeLongUptoCard
end Rows
end Go.Proofs.YtlnbjehimabaiaaGreatDoor
