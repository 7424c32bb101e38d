/-
  DERIVED. GIVEN WITH THE SEED: THE CARDS: each row of YtgnfbnjhmiggbaaDoorRows.lean that lists a variable, with what it lists TIED to the program's text (the seventh form; the later family's looks); each row that meets fmt, with fmt's text TOLD by the authors' own Lean function (tested against real Go, not proved from fmt's source: count such statements apart). THE CARD IS WHAT COUNTS. Prove the row's statement (the work); the ties are given (YtgnfbnjhmiggbaaDoorTie.lean); close each card by the builder's one call (the guide's Derived/Test/ToyasCard.lean, 'card_holds'). Laid BY PROGRAM, IN A SANDBOX (cutbox-door.mjs). By AI agents, Wed Nov 11 2026. No macro, syntax, notation, axiom, sorry.
-/
import Derived.Test.YtgnfbnjhmiggbaaDoorRows
import GoSem.ClaimSeven
namespace Go.Proofs.YtgnfbnjhmiggbaaDoor
namespace Rows

/-- THE TIED CARD OF 'portholelaw2.FieldAdds'. -/
def fieldAddsCard : Claim7 := { stood := { row := fieldAddsRow, standIns := [], harness := (true, "a0928a19cdd03c8dcbaa61bfe4b789182655cd806c644aa96032d9d6c2368522"), looks := false }, kinds := [], alts := [], laidByText := true, laidKinds := [.data], laidTests := true, laidLooks := .later }
def FieldAddsCardSaid : Prop := Claim7.holds Tryd.pinned (.plain (OpenSpec.ofChange fieldAddsSpec)) fieldAddsCard

/-- THE TIED CARD OF 'portholelaw2.FieldTimes'. -/
def fieldTimesCard : Claim7 := { stood := { row := fieldTimesRow, standIns := [], harness := (true, "a0928a19cdd03c8dcbaa61bfe4b789182655cd806c644aa96032d9d6c2368522"), looks := false }, kinds := [], alts := [], laidByText := true, laidKinds := [.data], laidTests := true, laidLooks := .later }
def FieldTimesCardSaid : Prop := Claim7.holds Tryd.pinned (.plain (OpenSpec.ofChange fieldTimesSpec)) fieldTimesCard

/-- THE SECOND FORM's CARD OF 'portholelaw2.FieldAdds'. -/
def fieldAddsUptoCard : Claim7 := { stood := { row := fieldAddsUptoRow, standIns := [], harness := (true, "a0928a19cdd03c8dcbaa61bfe4b789182655cd806c644aa96032d9d6c2368522"), looks := false }, kinds := [], alts := [], laidByText := true, laidKinds := [.data], laidTests := true, laidLooks := .later }
def FieldAddsUptoCardSaid : Prop := Claim7.holds Tryd.pinned (.plain (OpenSpec.upto fieldAddsSpec)) fieldAddsUptoCard

/-- THE SECOND FORM's CARD OF 'portholelaw2.FieldTimes'. -/
def fieldTimesUptoCard : Claim7 := { stood := { row := fieldTimesUptoRow, standIns := [], harness := (true, "a0928a19cdd03c8dcbaa61bfe4b789182655cd806c644aa96032d9d6c2368522"), looks := false }, kinds := [], alts := [], laidByText := true, laidKinds := [.data], laidTests := true, laidLooks := .later }
def FieldTimesUptoCardSaid : Prop := Claim7.holds Tryd.pinned (.plain (OpenSpec.upto fieldTimesSpec)) fieldTimesUptoCard
end Rows
end Go.Proofs.YtgnfbnjhmiggbaaDoor
