/-
  DERIVED. GIVEN WITH THE SEED: THE CARDS: each row of YtifcdmiopanedaaDoorRows.lean that lists a variable, with what it lists TIED to the program's text (the seventh form; the later family's looks); each row that meets fmt, with fmt's text TOLD by the authors' own Lean function (tested against real Go, not proved from fmt's source: count such statements apart). THE CARD IS WHAT COUNTS. Prove the row's statement (the work); the ties are given (YtifcdmiopanedaaDoorTie.lean); close each card by the builder's one call (the guide's Derived/Test/ToyasCard.lean, 'card_holds'). Laid BY PROGRAM, IN A SANDBOX (cutbox-door.mjs). By AI agents, Wed Nov 11 2026. No macro, syntax, notation, axiom, sorry.
-/
import Derived.Test.YtifcdmiopanedaaDoorRows
import GoSem.ClaimSeven
namespace Go.Proofs.YtifcdmiopanedaaDoor
namespace Rows

/-- THE TIED CARD OF 'portholelaw12.TermKnown'. -/
def termKnownCard : Claim7 := { stood := { row := termKnownRow, standIns := [], harness := (true, "76934e319a6a66e4475ba83db5902f77a0bf2fedd0175276bfc13037110323a4"), looks := true }, kinds := [], alts := [], laidByText := true, laidKinds := [.data, .data, .data], laidTests := true, laidLooks := .later }
def TermKnownCardSaid : Prop := Claim7.holds Tryd.pinned (.plain (OpenSpec.ofChange termKnownSpec)) termKnownCard

/-- THE TIED CARD OF 'portholelaw12.TermNames'. -/
def termNamesCard : Claim7 := { stood := { row := termNamesRow, standIns := [], harness := (true, "76934e319a6a66e4475ba83db5902f77a0bf2fedd0175276bfc13037110323a4"), looks := true }, kinds := [], alts := [], laidByText := true, laidKinds := [.data, .data, .data], laidTests := true, laidLooks := .later }
def TermNamesCardSaid : Prop := Claim7.holds Tryd.pinned (.plain (OpenSpec.ofChange termNamesSpec)) termNamesCard

/-- THE TIED CARD OF 'portholelaw12.TermDh'. -/
def termDhCard : Claim7 := { stood := { row := termDhRow, standIns := [], harness := (true, "76934e319a6a66e4475ba83db5902f77a0bf2fedd0175276bfc13037110323a4"), looks := true }, kinds := [], alts := [], laidByText := true, laidKinds := [.data, .data, .data], laidTests := true, laidLooks := .later }
def TermDhCardSaid : Prop := Claim7.holds Tryd.pinned (.plain (OpenSpec.ofChange termDhSpec)) termDhCard

/-- THE TIED CARD OF 'portholelaw12.TermApart'. -/
def termApartCard : Claim7 := { stood := { row := termApartRow, standIns := [], harness := (true, "76934e319a6a66e4475ba83db5902f77a0bf2fedd0175276bfc13037110323a4"), looks := true }, kinds := [], alts := [], laidByText := true, laidKinds := [.data, .data, .data], laidTests := true, laidLooks := .later }
def TermApartCardSaid : Prop := Claim7.holds Tryd.pinned (.plain (OpenSpec.ofChange termApartSpec)) termApartCard

/-- THE TIED CARD OF 'portholelaw12.TermShared'. -/
def termSharedCard : Claim7 := { stood := { row := termSharedRow, standIns := [], harness := (true, "76934e319a6a66e4475ba83db5902f77a0bf2fedd0175276bfc13037110323a4"), looks := true }, kinds := [], alts := [], laidByText := true, laidKinds := [.data, .data, .data], laidTests := true, laidLooks := .later }
def TermSharedCardSaid : Prop := Claim7.holds Tryd.pinned (.plain (OpenSpec.ofChange termSharedSpec)) termSharedCard

/-- THE SECOND FORM's CARD OF 'portholelaw12.TermKnown'. -/
def termKnownUptoCard : Claim7 := { stood := { row := termKnownUptoRow, standIns := [], harness := (true, "76934e319a6a66e4475ba83db5902f77a0bf2fedd0175276bfc13037110323a4"), looks := true }, kinds := [], alts := [], laidByText := true, laidKinds := [.data, .data, .data], laidTests := true, laidLooks := .later }
def TermKnownUptoCardSaid : Prop := Claim7.holds Tryd.pinned (.plain (OpenSpec.upto termKnownSpec)) termKnownUptoCard

/-- THE SECOND FORM's CARD OF 'portholelaw12.TermNames'. -/
def termNamesUptoCard : Claim7 := { stood := { row := termNamesUptoRow, standIns := [], harness := (true, "76934e319a6a66e4475ba83db5902f77a0bf2fedd0175276bfc13037110323a4"), looks := true }, kinds := [], alts := [], laidByText := true, laidKinds := [.data, .data, .data], laidTests := true, laidLooks := .later }
def TermNamesUptoCardSaid : Prop := Claim7.holds Tryd.pinned (.plain (OpenSpec.upto termNamesSpec)) termNamesUptoCard

/-- THE SECOND FORM's CARD OF 'portholelaw12.TermDh'. -/
def termDhUptoCard : Claim7 := { stood := { row := termDhUptoRow, standIns := [], harness := (true, "76934e319a6a66e4475ba83db5902f77a0bf2fedd0175276bfc13037110323a4"), looks := true }, kinds := [], alts := [], laidByText := true, laidKinds := [.data, .data, .data], laidTests := true, laidLooks := .later }
def TermDhUptoCardSaid : Prop := Claim7.holds Tryd.pinned (.plain (OpenSpec.upto termDhSpec)) termDhUptoCard

/-- THE SECOND FORM's CARD OF 'portholelaw12.TermApart'. -/
def termApartUptoCard : Claim7 := { stood := { row := termApartUptoRow, standIns := [], harness := (true, "76934e319a6a66e4475ba83db5902f77a0bf2fedd0175276bfc13037110323a4"), looks := true }, kinds := [], alts := [], laidByText := true, laidKinds := [.data, .data, .data], laidTests := true, laidLooks := .later }
def TermApartUptoCardSaid : Prop := Claim7.holds Tryd.pinned (.plain (OpenSpec.upto termApartSpec)) termApartUptoCard

/-- THE SECOND FORM's CARD OF 'portholelaw12.TermShared'. -/
def termSharedUptoCard : Claim7 := { stood := { row := termSharedUptoRow, standIns := [], harness := (true, "76934e319a6a66e4475ba83db5902f77a0bf2fedd0175276bfc13037110323a4"), looks := true }, kinds := [], alts := [], laidByText := true, laidKinds := [.data, .data, .data], laidTests := true, laidLooks := .later }
def TermSharedUptoCardSaid : Prop := Claim7.holds Tryd.pinned (.plain (OpenSpec.upto termSharedSpec)) termSharedUptoCard
end Rows
end Go.Proofs.YtifcdmiopanedaaDoor
