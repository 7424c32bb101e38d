/-
  DERIVED. GIVEN WITH THE SEED: THE PROGRAM's TIES (one call each: nine closed facts by the kernel) AND EACH ROW's TIE, after the 31st guide's Derived/Test/Toyas{Tie, Card}.lean. No idea stands in it: it is a product of the set-up. Laid BY PROGRAM, IN A SANDBOX (cutbox-door.mjs). By AI agents, Wed Nov 11 2026. No macro, syntax, notation, axiom, sorry.
-/
import Derived.Test.YtlnbjehimabaiaaGreatDoorRows
import Derived.LaidByTextLater
import Derived.SevenTiedAt
import Derived.LaidSub
import Derived.LaidOnce
namespace Go.Proofs.YtlnbjehimabaiaaGreatDoor
open Go
set_option maxRecDepth 100000
theorem seatTie1 : Tryz.prog.laidByTextLater [("porthole/blake.iv", Rows.laid_porthole_blake_iv), ("porthole/blake.sigma", Rows.laid_porthole_blake_sigma), ("porthole/shake.tokens", Rows.laid_porthole_shake_tokens)] [.data, .data, .data] true :=
  Program.laidByTextLater_by_one 72 8 161 (by kernel_rfl) (by kernel_rfl) (by kernel_rfl) (by kernel_rfl) (by kernel_rfl) (by kernel_rfl) (fun _ _ => by kernel_rfl)
theorem seatTie2 : Tryz.prog.laidByTextLater [("porthole/blake.iv", Rows.laid_porthole_blake_iv), ("porthole/blake.sigma", Rows.laid_porthole_blake_sigma), ("porthole/portholeref1.prime", Rows.laid_porthole_portholeref1_prime), ("porthole/portholeref4.rows", Rows.laid_porthole_portholeref4_rows), ("porthole/portholeref4.iv", Rows.laid_porthole_portholeref4_iv), ("porthole/portholeref4.sigma", Rows.laid_porthole_portholeref4_sigma), ("porthole/shake.tokens", Rows.laid_porthole_shake_tokens)] [.data, .data, .data, .data, .data, .data, .data] true :=
  Program.laidByTextLater_by_one 72 8 161 (by kernel_rfl) (by kernel_rfl) (by kernel_rfl) (by kernel_rfl) (by kernel_rfl) (by kernel_rfl) (fun _ _ => by kernel_rfl)
theorem noOwnUnsafe : Tryz.pinned.checked.prog.headLifts.contains "ownunsafe" = false := by kernel_rfl
theorem tie : Tryz.prog.laidByTextLater [("porthole/blake.iv", Rows.laid_porthole_blake_iv), ("porthole/blake.sigma", Rows.laid_porthole_blake_sigma), ("porthole/shake.tokens", Rows.laid_porthole_shake_tokens)] [.data, .data, .data] true :=
  Program.laidByTextLater.sub seatTie1 ["porthole/blake.iv", "porthole/blake.sigma", "porthole/shake.tokens"] (by kernel_rfl) (by kernel_rfl)
theorem shakeKnown_row_tie : Rows.shakeKnownRow.laidByTextAt .later Tryz.pinned [.data, .data, .data] true :=
  OpenClaim.laidByTextAt_later rfl rfl tie noOwnUnsafe
theorem shakeAgrees_row_tie : Rows.shakeAgreesRow.laidByTextAt .later Tryz.pinned [.data, .data, .data] true :=
  OpenClaim.laidByTextAt_later rfl rfl tie noOwnUnsafe
theorem shakeTurns_row_tie : Rows.shakeTurnsRow.laidByTextAt .later Tryz.pinned [.data, .data, .data] true :=
  OpenClaim.laidByTextAt_later rfl rfl tie noOwnUnsafe
theorem shakeLong_row_tie : Rows.shakeLongRow.laidByTextAt .later Tryz.pinned [.data, .data, .data] true :=
  OpenClaim.laidByTextAt_later rfl rfl tie noOwnUnsafe
theorem tie2 : Tryz.prog.laidByTextLater [("porthole/blake.iv", Rows.laid_porthole_blake_iv), ("porthole/blake.sigma", Rows.laid_porthole_blake_sigma), ("porthole/portholeref1.prime", Rows.laid_porthole_portholeref1_prime), ("porthole/portholeref4.rows", Rows.laid_porthole_portholeref4_rows), ("porthole/portholeref4.iv", Rows.laid_porthole_portholeref4_iv), ("porthole/portholeref4.sigma", Rows.laid_porthole_portholeref4_sigma), ("porthole/shake.tokens", Rows.laid_porthole_shake_tokens)] [.data, .data, .data, .data, .data, .data, .data] true :=
  Program.laidByTextLater.sub seatTie2 ["porthole/blake.iv", "porthole/blake.sigma", "porthole/portholeref1.prime", "porthole/portholeref4.rows", "porthole/portholeref4.iv", "porthole/portholeref4.sigma", "porthole/shake.tokens"] (by kernel_rfl) (by kernel_rfl)
theorem shakePlays_row_tie : Rows.shakePlaysRow.laidByTextAt .later Tryz.pinned [.data, .data, .data, .data, .data, .data, .data] true :=
  OpenClaim.laidByTextAt_later rfl rfl tie2 noOwnUnsafe
theorem shakeKnownUpto_row_tie : Rows.shakeKnownUptoRow.laidByTextAt .later Tryz.pinned [.data, .data, .data] true :=
  OpenClaim.laidByTextAt_later rfl rfl tie noOwnUnsafe
theorem shakePlaysUpto_row_tie : Rows.shakePlaysUptoRow.laidByTextAt .later Tryz.pinned [.data, .data, .data, .data, .data, .data, .data] true :=
  OpenClaim.laidByTextAt_later rfl rfl tie2 noOwnUnsafe
theorem shakeAgreesUpto_row_tie : Rows.shakeAgreesUptoRow.laidByTextAt .later Tryz.pinned [.data, .data, .data] true :=
  OpenClaim.laidByTextAt_later rfl rfl tie noOwnUnsafe
theorem shakeTurnsUpto_row_tie : Rows.shakeTurnsUptoRow.laidByTextAt .later Tryz.pinned [.data, .data, .data] true :=
  OpenClaim.laidByTextAt_later rfl rfl tie noOwnUnsafe
theorem shakeLongUpto_row_tie : Rows.shakeLongUptoRow.laidByTextAt .later Tryz.pinned [.data, .data, .data] true :=
  OpenClaim.laidByTextAt_later rfl rfl tie noOwnUnsafe
end Go.Proofs.YtlnbjehimabaiaaGreatDoor
