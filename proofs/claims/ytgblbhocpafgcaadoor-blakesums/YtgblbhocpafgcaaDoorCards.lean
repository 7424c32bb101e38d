/-
  DERIVED. GIVEN WITH THE SEED: THE CARDS: each row of YtgblbhocpafgcaaDoorRows.lean that lists a variable, with what it lists TIED to the program's text (the seventh form; the later family's looks); each row that meets fmt, with fmt's text TOLD by the authors' own Lean function (tested against real Go, not proved from fmt's source: count such statements apart). THE CARD IS WHAT COUNTS. Prove the row's statement (the work); the ties are given (YtgblbhocpafgcaaDoorTie.lean); close each card by the builder's one call (the guide's Derived/Test/ToyasCard.lean, 'card_holds'). Laid BY PROGRAM, IN A SANDBOX (cutbox-door.mjs). By AI agents, Wed Nov 11 2026. No macro, syntax, notation, axiom, sorry.
-/
import Derived.Test.YtgblbhocpafgcaaDoorRows
import GoSem.ClaimSeven
namespace Go.Proofs.YtgblbhocpafgcaaDoor
namespace Rows

/-- THE TIED CARD OF 'portholelaw7.BlakeKnown'. -/
def blakeKnownCard : Claim7 := { stood := { row := blakeKnownRow, standIns := [], harness := (true, "1a226ffb61c5fe11d2d805dbbafd28f6c7cf6848080d738a397af8cd9eb359a5"), looks := false }, kinds := [], alts := [], laidByText := true, laidKinds := [.data, .data], laidTests := true, laidLooks := .later }
def BlakeKnownCardSaid : Prop := Claim7.holds Tryd.pinned (.plain (OpenSpec.ofChange blakeKnownSpec)) blakeKnownCard

/-- THE TIED CARD OF 'portholelaw7.BlakeSums'. -/
def blakeSumsCard : Claim7 := { stood := { row := blakeSumsRow, standIns := [], harness := (true, "1a226ffb61c5fe11d2d805dbbafd28f6c7cf6848080d738a397af8cd9eb359a5"), looks := false }, kinds := [], alts := [], laidByText := true, laidKinds := [.data, .data, .data, .data, .data], laidTests := true, laidLooks := .later }
def BlakeSumsCardSaid : Prop := Claim7.holds Tryd.pinned (.plain (OpenSpec.ofChange blakeSumsSpec)) blakeSumsCard

/-- THE TIED CARD OF 'portholelaw7.BlakePieces'. -/
def blakePiecesCard : Claim7 := { stood := { row := blakePiecesRow, standIns := [], harness := (true, "1a226ffb61c5fe11d2d805dbbafd28f6c7cf6848080d738a397af8cd9eb359a5"), looks := false }, kinds := [], alts := [], laidByText := true, laidKinds := [.data, .data], laidTests := true, laidLooks := .later }
def BlakePiecesCardSaid : Prop := Claim7.holds Tryd.pinned (.plain (OpenSpec.ofChange blakePiecesSpec)) blakePiecesCard

/-- THE TIED CARD OF 'portholelaw7.BlakeApart'. -/
def blakeApartCard : Claim7 := { stood := { row := blakeApartRow, standIns := [], harness := (true, "1a226ffb61c5fe11d2d805dbbafd28f6c7cf6848080d738a397af8cd9eb359a5"), looks := false }, kinds := [], alts := [], laidByText := true, laidKinds := [.data, .data], laidTests := true, laidLooks := .later }
def BlakeApartCardSaid : Prop := Claim7.holds Tryd.pinned (.plain (OpenSpec.ofChange blakeApartSpec)) blakeApartCard

/-- THE SECOND FORM's CARD OF 'portholelaw7.BlakeKnown'. -/
def blakeKnownUptoCard : Claim7 := { stood := { row := blakeKnownUptoRow, standIns := [], harness := (true, "1a226ffb61c5fe11d2d805dbbafd28f6c7cf6848080d738a397af8cd9eb359a5"), looks := false }, kinds := [], alts := [], laidByText := true, laidKinds := [.data, .data], laidTests := true, laidLooks := .later }
def BlakeKnownUptoCardSaid : Prop := Claim7.holds Tryd.pinned (.plain (OpenSpec.upto blakeKnownSpec)) blakeKnownUptoCard

/-- THE SECOND FORM's CARD OF 'portholelaw7.BlakeSums'. -/
def blakeSumsUptoCard : Claim7 := { stood := { row := blakeSumsUptoRow, standIns := [], harness := (true, "1a226ffb61c5fe11d2d805dbbafd28f6c7cf6848080d738a397af8cd9eb359a5"), looks := false }, kinds := [], alts := [], laidByText := true, laidKinds := [.data, .data, .data, .data, .data], laidTests := true, laidLooks := .later }
def BlakeSumsUptoCardSaid : Prop := Claim7.holds Tryd.pinned (.plain (OpenSpec.upto blakeSumsSpec)) blakeSumsUptoCard

/-- THE SECOND FORM's CARD OF 'portholelaw7.BlakePieces'. -/
def blakePiecesUptoCard : Claim7 := { stood := { row := blakePiecesUptoRow, standIns := [], harness := (true, "1a226ffb61c5fe11d2d805dbbafd28f6c7cf6848080d738a397af8cd9eb359a5"), looks := false }, kinds := [], alts := [], laidByText := true, laidKinds := [.data, .data], laidTests := true, laidLooks := .later }
def BlakePiecesUptoCardSaid : Prop := Claim7.holds Tryd.pinned (.plain (OpenSpec.upto blakePiecesSpec)) blakePiecesUptoCard

/-- THE SECOND FORM's CARD OF 'portholelaw7.BlakeApart'. -/
def blakeApartUptoCard : Claim7 := { stood := { row := blakeApartUptoRow, standIns := [], harness := (true, "1a226ffb61c5fe11d2d805dbbafd28f6c7cf6848080d738a397af8cd9eb359a5"), looks := false }, kinds := [], alts := [], laidByText := true, laidKinds := [.data, .data], laidTests := true, laidLooks := .later }
def BlakeApartUptoCardSaid : Prop := Claim7.holds Tryd.pinned (.plain (OpenSpec.upto blakeApartSpec)) blakeApartUptoCard
end Rows
end Go.Proofs.YtgblbhocpafgcaaDoor
