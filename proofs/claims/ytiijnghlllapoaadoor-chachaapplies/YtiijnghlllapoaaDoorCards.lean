/-
  DERIVED. GIVEN WITH THE SEED: THE CARDS: each row of YtiijnghlllapoaaDoorRows.lean that lists a variable, with what it lists TIED to the program's text (the seventh form; the later family's looks); each row that meets fmt, with fmt's text TOLD by the authors' own Lean function (tested against real Go, not proved from fmt's source: count such statements apart). THE CARD IS WHAT COUNTS. Prove the row's statement (the work); the ties are given (YtiijnghlllapoaaDoorTie.lean); close each card by the builder's one call (the guide's Derived/Test/ToyasCard.lean, 'card_holds'). Laid BY PROGRAM, IN A SANDBOX (cutbox-door.mjs). By AI agents, Wed Nov 11 2026. No macro, syntax, notation, axiom, sorry.
-/
import Derived.Test.YtiijnghlllapoaaDoorRows
import GoSem.ClaimSeven
namespace Go.Proofs.YtiijnghlllapoaaDoor
namespace Rows

/-- THE TIED CARD OF 'portholelaw4.ChachaBlocks'. -/
def chachaBlocksCard : Claim7 := { stood := { row := chachaBlocksRow, standIns := [], harness := (true, "2da586af9968e07866607788ffc7fee3e7375a242336334dbf7c9f26bd318af8"), looks := false }, kinds := [], alts := [], laidByText := true, laidKinds := [.data], laidTests := true, laidLooks := .later }
def ChachaBlocksCardSaid : Prop := Claim7.holds Tryd.pinned (.plain (OpenSpec.ofChange chachaBlocksSpec)) chachaBlocksCard

/-- THE TIED CARD OF 'portholelaw4.ChachaApplies'. -/
def chachaAppliesCard : Claim7 := { stood := { row := chachaAppliesRow, standIns := [], harness := (true, "2da586af9968e07866607788ffc7fee3e7375a242336334dbf7c9f26bd318af8"), looks := false }, kinds := [], alts := [], laidByText := true, laidKinds := [.data], laidTests := true, laidLooks := .later }
def ChachaAppliesCardSaid : Prop := Claim7.holds Tryd.pinned (.plain (OpenSpec.ofChange chachaAppliesSpec)) chachaAppliesCard

/-- THE SECOND FORM's CARD OF 'portholelaw4.ChachaBlocks'. -/
def chachaBlocksUptoCard : Claim7 := { stood := { row := chachaBlocksUptoRow, standIns := [], harness := (true, "2da586af9968e07866607788ffc7fee3e7375a242336334dbf7c9f26bd318af8"), looks := false }, kinds := [], alts := [], laidByText := true, laidKinds := [.data], laidTests := true, laidLooks := .later }
def ChachaBlocksUptoCardSaid : Prop := Claim7.holds Tryd.pinned (.plain (OpenSpec.upto chachaBlocksSpec)) chachaBlocksUptoCard

/-- THE SECOND FORM's CARD OF 'portholelaw4.ChachaApplies'. -/
def chachaAppliesUptoCard : Claim7 := { stood := { row := chachaAppliesUptoRow, standIns := [], harness := (true, "2da586af9968e07866607788ffc7fee3e7375a242336334dbf7c9f26bd318af8"), looks := false }, kinds := [], alts := [], laidByText := true, laidKinds := [.data], laidTests := true, laidLooks := .later }
def ChachaAppliesUptoCardSaid : Prop := Claim7.holds Tryd.pinned (.plain (OpenSpec.upto chachaAppliesSpec)) chachaAppliesUptoCard
end Rows
end Go.Proofs.YtiijnghlllapoaaDoor
