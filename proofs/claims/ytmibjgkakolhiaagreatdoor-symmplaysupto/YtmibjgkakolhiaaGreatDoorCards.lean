/-
  DERIVED. GIVEN WITH THE SEED: THE CARDS: each row of YtmibjgkakolhiaaGreatDoorRows.lean that lists a variable, with what it lists TIED to the program's text (the seventh form; the later family's looks); each row that meets fmt, with fmt's text TOLD by the authors' own Lean function (tested against real Go, not proved from fmt's source: count such statements apart). THE CARD IS WHAT COUNTS. Prove the row's statement (the work); the ties are given (YtmibjgkakolhiaaGreatDoorTie.lean); close each card by the builder's one call (the guide's Derived/Test/ToyasCard.lean, 'card_holds'). Laid BY PROGRAM, IN A SANDBOX (cutbox-door.mjs). By AI agents, Wed Nov 11 2026. No macro, syntax, notation, axiom, sorry.
-/
import Derived.Test.YtmibjgkakolhiaaGreatDoorRows
import GoSem.ClaimSeven
namespace Go.Proofs.YtmibjgkakolhiaaGreatDoor
namespace Rows

/-- THE TIED CARD OF 'portholelaw10.SymmPlays'. -/
def symmPlaysCard : Claim7 := { stood := { row := symmPlaysRow, standIns := [], harness := (true, "f22d3a7e58a3deb0383aab93575792983ba12f2e8e43196964399ef58a5aeee7"), looks := false }, kinds := [], alts := [], laidByText := true, laidKinds := [.data, .data, .data, .data, .data], laidTests := true, laidLooks := .later }
def SymmPlaysCardSaid : Prop := Claim7.holds Tryz.pinned (.plain (OpenSpec.ofChange symmPlaysSpec)) symmPlaysCard

/-- THE SECOND FORM's CARD OF 'portholelaw10.SymmPlays'. -/
def symmPlaysUptoCard : Claim7 := { stood := { row := symmPlaysUptoRow, standIns := [], harness := (true, "f22d3a7e58a3deb0383aab93575792983ba12f2e8e43196964399ef58a5aeee7"), looks := false }, kinds := [], alts := [], laidByText := true, laidKinds := [.data, .data, .data, .data, .data], laidTests := true, laidLooks := .later }
def SymmPlaysUptoCardSaid : Prop := Claim7.holds Tryz.pinned (.plain (OpenSpec.upto symmPlaysSpec)) symmPlaysUptoCard
end Rows
end Go.Proofs.YtmibjgkakolhiaaGreatDoor
