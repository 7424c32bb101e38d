/-
  DERIVED. GIVEN WITH THE SEED: THE CARDS: each row of YtmibjgkakolhiaaDoorRows.lean that lists a variable, with what it lists TIED to the program's text (the seventh form; the later family's looks); each row that meets fmt, with fmt's text TOLD by the authors' own Lean function (tested against real Go, not proved from fmt's source: count such statements apart). THE CARD IS WHAT COUNTS. Prove the row's statement (the work); the ties are given (YtmibjgkakolhiaaDoorTie.lean); close each card by the builder's one call (the guide's Derived/Test/ToyasCard.lean, 'card_holds'). Laid BY PROGRAM, IN A SANDBOX (cutbox-door.mjs). By AI agents, Wed Nov 11 2026. No macro, syntax, notation, axiom, sorry.
-/
import Derived.Test.YtmibjgkakolhiaaDoorRows
import GoSem.ClaimSeven
namespace Go.Proofs.YtmibjgkakolhiaaDoor
namespace Rows

/-- THE TIED CARD OF 'portholelaw10.SymmKnown'. -/
def symmKnownCard : Claim7 := { stood := { row := symmKnownRow, standIns := [], harness := (true, "12c1843f60573b8037d4751671cab958cfe7658ce95c0241d8bbbf43527c160a"), looks := false }, kinds := [], alts := [], laidByText := true, laidKinds := [.data, .data, .data, .data, .data], laidTests := true, laidLooks := .later }
def SymmKnownCardSaid : Prop := Claim7.holds Tryd.pinned (.plain (OpenSpec.ofChange symmKnownSpec)) symmKnownCard

/-- THE TIED CARD OF 'portholelaw10.SymmBoth'. -/
def symmBothCard : Claim7 := { stood := { row := symmBothRow, standIns := [], harness := (true, "12c1843f60573b8037d4751671cab958cfe7658ce95c0241d8bbbf43527c160a"), looks := false }, kinds := [], alts := [], laidByText := true, laidKinds := [.data, .data], laidTests := true, laidLooks := .later }
def SymmBothCardSaid : Prop := Claim7.holds Tryd.pinned (.plain (OpenSpec.ofChange symmBothSpec)) symmBothCard

/-- THE TIED CARD OF 'portholelaw10.SymmNames'. -/
def symmNamesCard : Claim7 := { stood := { row := symmNamesRow, standIns := [], harness := (true, "12c1843f60573b8037d4751671cab958cfe7658ce95c0241d8bbbf43527c160a"), looks := false }, kinds := [], alts := [], laidByText := true, laidKinds := [.data, .data], laidTests := true, laidLooks := .later }
def SymmNamesCardSaid : Prop := Claim7.holds Tryd.pinned (.plain (OpenSpec.ofChange symmNamesSpec)) symmNamesCard

/-- THE TIED CARD OF 'portholelaw10.SymmPlain'. -/
def symmPlainCard : Claim7 := { stood := { row := symmPlainRow, standIns := [], harness := (true, "12c1843f60573b8037d4751671cab958cfe7658ce95c0241d8bbbf43527c160a"), looks := false }, kinds := [], alts := [], laidByText := true, laidKinds := [.data, .data], laidTests := true, laidLooks := .later }
def SymmPlainCardSaid : Prop := Claim7.holds Tryd.pinned (.plain (OpenSpec.ofChange symmPlainSpec)) symmPlainCard

/-- THE SECOND FORM's CARD OF 'portholelaw10.SymmKnown'. -/
def symmKnownUptoCard : Claim7 := { stood := { row := symmKnownUptoRow, standIns := [], harness := (true, "12c1843f60573b8037d4751671cab958cfe7658ce95c0241d8bbbf43527c160a"), looks := false }, kinds := [], alts := [], laidByText := true, laidKinds := [.data, .data, .data, .data, .data], laidTests := true, laidLooks := .later }
def SymmKnownUptoCardSaid : Prop := Claim7.holds Tryd.pinned (.plain (OpenSpec.upto symmKnownSpec)) symmKnownUptoCard

/-- THE SECOND FORM's CARD OF 'portholelaw10.SymmBoth'. -/
def symmBothUptoCard : Claim7 := { stood := { row := symmBothUptoRow, standIns := [], harness := (true, "12c1843f60573b8037d4751671cab958cfe7658ce95c0241d8bbbf43527c160a"), looks := false }, kinds := [], alts := [], laidByText := true, laidKinds := [.data, .data], laidTests := true, laidLooks := .later }
def SymmBothUptoCardSaid : Prop := Claim7.holds Tryd.pinned (.plain (OpenSpec.upto symmBothSpec)) symmBothUptoCard

/-- THE SECOND FORM's CARD OF 'portholelaw10.SymmNames'. -/
def symmNamesUptoCard : Claim7 := { stood := { row := symmNamesUptoRow, standIns := [], harness := (true, "12c1843f60573b8037d4751671cab958cfe7658ce95c0241d8bbbf43527c160a"), looks := false }, kinds := [], alts := [], laidByText := true, laidKinds := [.data, .data], laidTests := true, laidLooks := .later }
def SymmNamesUptoCardSaid : Prop := Claim7.holds Tryd.pinned (.plain (OpenSpec.upto symmNamesSpec)) symmNamesUptoCard

/-- THE SECOND FORM's CARD OF 'portholelaw10.SymmPlain'. -/
def symmPlainUptoCard : Claim7 := { stood := { row := symmPlainUptoRow, standIns := [], harness := (true, "12c1843f60573b8037d4751671cab958cfe7658ce95c0241d8bbbf43527c160a"), looks := false }, kinds := [], alts := [], laidByText := true, laidKinds := [.data, .data], laidTests := true, laidLooks := .later }
def SymmPlainUptoCardSaid : Prop := Claim7.holds Tryd.pinned (.plain (OpenSpec.upto symmPlainSpec)) symmPlainUptoCard
end Rows
end Go.Proofs.YtmibjgkakolhiaaDoor
