/-
  DERIVED. GIVEN WITH THE SEED: THE CARDS: each row of YtdjcjflcdjdkbaaDoorRows.lean that lists a variable, with what it lists TIED to the program's text (the seventh form; the later family's looks); each row that meets fmt, with fmt's text TOLD by the authors' own Lean function (tested against real Go, not proved from fmt's source: count such statements apart). THE CARD IS WHAT COUNTS. Prove the row's statement (the work); the ties are given (YtdjcjflcdjdkbaaDoorTie.lean); close each card by the builder's one call (the guide's Derived/Test/ToyasCard.lean, 'card_holds'). Laid BY PROGRAM, IN A SANDBOX (cutbox-door.mjs). By AI agents, Wed Nov 11 2026. No macro, syntax, notation, axiom, sorry.
-/
import Derived.Test.YtdjcjflcdjdkbaaDoorRows
import GoSem.ClaimSeven
namespace Go.Proofs.YtdjcjflcdjdkbaaDoor
namespace Rows

/-- THE TIED CARD OF 'portholelaw2.FieldAdds'. -/
def fieldAddsCard : Claim7 := { stood := { row := fieldAddsRow, standIns := [], harness := (true, "81aac985bf283381a21e2ce7650a8e607d97f9ef4437946f811788dc87ce8250"), looks := false }, kinds := [], alts := [], laidByText := true, laidKinds := [.data], laidTests := true, laidLooks := .later }
def FieldAddsCardSaid : Prop := Claim7.holds Tryd.pinned (.plain (OpenSpec.ofChange fieldAddsSpec)) fieldAddsCard

/-- THE SECOND FORM's CARD OF 'portholelaw2.FieldAdds'. -/
def fieldAddsUptoCard : Claim7 := { stood := { row := fieldAddsUptoRow, standIns := [], harness := (true, "81aac985bf283381a21e2ce7650a8e607d97f9ef4437946f811788dc87ce8250"), looks := false }, kinds := [], alts := [], laidByText := true, laidKinds := [.data], laidTests := true, laidLooks := .later }
def FieldAddsUptoCardSaid : Prop := Claim7.holds Tryd.pinned (.plain (OpenSpec.upto fieldAddsSpec)) fieldAddsUptoCard
end Rows
end Go.Proofs.YtdjcjflcdjdkbaaDoor
