/-
  DERIVED. GIVEN WITH THE SEED: THE PROGRAM's TIES (one call each: nine closed facts by the kernel) AND EACH ROW's TIE, after the 31st guide's Derived/Test/Toyas{Tie, Card}.lean. No idea stands in it: it is a product of the set-up. Laid BY PROGRAM, IN A SANDBOX (cutbox-door.mjs). By AI agents, Wed Nov 11 2026. No macro, syntax, notation, axiom, sorry.
-/
import Derived.Test.YtmibjgkakolhiaaGreatDoorRows
import Derived.LaidByTextLater
import Derived.SevenTiedAt
import Derived.LaidSub
import Derived.LaidOnce
namespace Go.Proofs.YtmibjgkakolhiaaGreatDoor
open Go
set_option maxRecDepth 100000
theorem seatTie1 : Tryz.prog.laidByTextLater [("porthole/blake.iv", Rows.laid_porthole_blake_iv), ("porthole/blake.sigma", Rows.laid_porthole_blake_sigma), ("porthole/portholeref4.rows", Rows.laid_porthole_portholeref4_rows), ("porthole/portholeref4.iv", Rows.laid_porthole_portholeref4_iv), ("porthole/portholeref4.sigma", Rows.laid_porthole_portholeref4_sigma)] [.data, .data, .data, .data, .data] true :=
  Program.laidByTextLater_by_one 62 8 161 (by kernel_rfl) (by kernel_rfl) (by kernel_rfl) (by kernel_rfl) (by kernel_rfl) (by kernel_rfl) (fun _ _ => by kernel_rfl)
theorem noOwnUnsafe : Tryz.pinned.checked.prog.headLifts.contains "ownunsafe" = false := by kernel_rfl
theorem tie : Tryz.prog.laidByTextLater [("porthole/blake.iv", Rows.laid_porthole_blake_iv), ("porthole/blake.sigma", Rows.laid_porthole_blake_sigma), ("porthole/portholeref4.rows", Rows.laid_porthole_portholeref4_rows), ("porthole/portholeref4.iv", Rows.laid_porthole_portholeref4_iv), ("porthole/portholeref4.sigma", Rows.laid_porthole_portholeref4_sigma)] [.data, .data, .data, .data, .data] true :=
  Program.laidByTextLater.sub seatTie1 ["porthole/blake.iv", "porthole/blake.sigma", "porthole/portholeref4.rows", "porthole/portholeref4.iv", "porthole/portholeref4.sigma"] (by kernel_rfl) (by kernel_rfl)
theorem symmPlays_row_tie : Rows.symmPlaysRow.laidByTextAt .later Tryz.pinned [.data, .data, .data, .data, .data] true :=
  OpenClaim.laidByTextAt_later rfl rfl tie noOwnUnsafe
theorem symmPlaysUpto_row_tie : Rows.symmPlaysUptoRow.laidByTextAt .later Tryz.pinned [.data, .data, .data, .data, .data] true :=
  OpenClaim.laidByTextAt_later rfl rfl tie noOwnUnsafe
end Go.Proofs.YtmibjgkakolhiaaGreatDoor
