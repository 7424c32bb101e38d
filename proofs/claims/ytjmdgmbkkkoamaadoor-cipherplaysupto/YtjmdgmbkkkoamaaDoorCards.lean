/-
  DERIVED. GIVEN WITH THE SEED: THE CARDS: each row of YtjmdgmbkkkoamaaDoorRows.lean that lists a variable, with what it lists TIED to the program's text (the seventh form; the later family's looks); each row that meets fmt, with fmt's text TOLD by the authors' own Lean function (tested against real Go, not proved from fmt's source: count such statements apart). THE CARD IS WHAT COUNTS. Prove the row's statement (the work); the ties are given (YtjmdgmbkkkoamaaDoorTie.lean); close each card by the builder's one call (the guide's Derived/Test/ToyasCard.lean, 'card_holds'). Laid BY PROGRAM, IN A SANDBOX (cutbox-door.mjs). By AI agents, Wed Nov 11 2026. No macro, syntax, notation, axiom, sorry.
-/
import Derived.Test.YtjmdgmbkkkoamaaDoorRows
import GoSem.ClaimSeven
namespace Go.Proofs.YtjmdgmbkkkoamaaDoor
namespace Rows

/-- THE TIED CARD OF 'portholelaw9.CipherPlays'. -/
def cipherPlaysCard : Claim7 := { stood := { row := cipherPlaysRow, standIns := [], harness := (true, "b621e8e3f9924ca43d9570f8d97c9fb773edc929e48e382eb29d1f2f43780d21"), looks := false }, kinds := [], alts := [], laidByText := true, laidKinds := [.data], laidTests := true, laidLooks := .later }
def CipherPlaysCardSaid : Prop := Claim7.holds Tryd.pinned (.plain (OpenSpec.ofChange cipherPlaysSpec)) cipherPlaysCard

/-- THE SECOND FORM's CARD OF 'portholelaw9.CipherPlays'. -/
def cipherPlaysUptoCard : Claim7 := { stood := { row := cipherPlaysUptoRow, standIns := [], harness := (true, "b621e8e3f9924ca43d9570f8d97c9fb773edc929e48e382eb29d1f2f43780d21"), looks := false }, kinds := [], alts := [], laidByText := true, laidKinds := [.data], laidTests := true, laidLooks := .later }
def CipherPlaysUptoCardSaid : Prop := Claim7.holds Tryd.pinned (.plain (OpenSpec.upto cipherPlaysSpec)) cipherPlaysUptoCard
end Rows
end Go.Proofs.YtjmdgmbkkkoamaaDoor
