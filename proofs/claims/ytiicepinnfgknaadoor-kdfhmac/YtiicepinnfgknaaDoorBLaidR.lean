/-
  What the conditions on blake's and the reference's package variables give a walk, and a world that meets them. No statement of the seat is proved here.
-/
import Derived.Test.YtiicepinnfgknaaDoorBLaid
import Derived.Test.YtiicepinnfgknaaDoorRB2
namespace Go.Proofs.YtiicepinnfgknaaDoor
open Go.ChangeShapes Go.WideShapes Go.ChangeAt Go.RowKit

theorem gRiv : Tryd.prog.globalNamed "porthole/portholeref4.iv" = some 0 := by kernel_rfl
theorem gRivType : (Tryd.prog.globals[0]?).map (·.type) = some 47 := by kernel_rfl
theorem gRro : Tryd.prog.globalNamed "porthole/portholeref4.rows" = some 1 := by kernel_rfl
theorem gRroType : (Tryd.prog.globals[1]?).map (·.type) = some 53 := by kernel_rfl
theorem gRsg : Tryd.prog.globalNamed "porthole/portholeref4.sigma" = some 2 := by kernel_rfl
theorem gRsgType : (Tryd.prog.globals[2]?).map (·.type) = some 55 := by kernel_rfl
theorem cellsI7 : Tryd.prog.cellsOf 3 = 1 := by kernel_rfl
theorem cellsR7 : Tryd.prog.cellsOf 52 = 4 := by kernel_rfl
theorem cellsS7 : Tryd.prog.cellsOf 54 = 16 := by kernel_rfl
def rowII : List (List Int) := [[0, 4, 8, 12], [1, 5, 9, 13], [2, 6, 10, 14], [3, 7, 11, 15], [0, 5, 10, 15], [1, 6, 11, 12], [2, 7, 8, 13], [3, 4, 9, 14]]
theorem rowII_flat : rowII.flatten.map (Value.int .i64) = rowI.map (Value.int .i64) := by kernel_rfl
theorem sgI_flat : sgI.flatten.map (Value.int .i64) = sigI.map (Value.int .i64) := by kernel_rfl
set_option maxRecDepth 100000 in
theorem gq_of_vars {W : World} {ps : List MemPlace} (h : DataW.LaidVars Tryd.prog W [("porthole/portholeref4.rows", Rows.laid_porthole_portholeref4_rows), ("porthole/portholeref4.iv", Rows.laid_porthole_portholeref4_iv), ("porthole/portholeref4.sigma", Rows.laid_porthole_portholeref4_sigma)] ps) : Gq W := by
  obtain ⟨g, t, cs, fuel, p, q, hg, ht, hvar, hd, ⟨g2, t2, cs2, fuel2, p2, q2, hg2, ht2, hvar2, hd2, ⟨g3, t3, cs3, fuel3, p3, q3, hg3, ht3, hvar3, hd3, _, _⟩, _⟩, _⟩ := h
  obtain rfl := Option.some.inj (gRro.symm.trans hg)
  obtain rfl := Option.some.inj (gRroType.symm.trans ht)
  obtain rfl := Option.some.inj (gRiv.symm.trans hg2)
  obtain rfl := Option.some.inj (gRivType.symm.trans ht2)
  obtain rfl := Option.some.inj (gRsg.symm.trans hg3)
  obtain rfl := Option.some.inj (gRsgType.symm.trans ht3)
  refine ⟨vector_of (k := .u32) iv7 rfl gRiv hvar2 Tryd.underlying47 Tryd.underlying46 cells4' hd2, ?_, ?_⟩
  · rw [← rowII_flat]
    exact matrix_of (k := .i64) rowII rfl (by decide) (by decide) gRro hvar Tryd.underlying53 Tryd.underlying52 Tryd.underlying3 cellsI7 cellsR7 hd
  · rw [← sgI_flat]
    exact matrix_of (k := .i64) sgI rfl (by decide) (by decide) gRsg hvar3 Tryd.underlying55 Tryd.underlying54 Tryd.underlying3 cellsI7 cellsS7 hd3
theorem gg_of_laid {W : World} (h : laidMetH Tryd.prog [("porthole/blake.iv", Rows.laid_porthole_blake_iv), ("porthole/blake.sigma", Rows.laid_porthole_blake_sigma), ("porthole/portholeref4.rows", Rows.laid_porthole_portholeref4_rows), ("porthole/portholeref4.iv", Rows.laid_porthole_portholeref4_iv), ("porthole/portholeref4.sigma", Rows.laid_porthole_portholeref4_sigma)] W) : Gb W ∧ Gq W := by
  have h' : laidMet Tryd.prog [("porthole/blake.iv", Rows.laid_porthole_blake_iv), ("porthole/blake.sigma", Rows.laid_porthole_blake_sigma), ("porthole/portholeref4.rows", Rows.laid_porthole_portholeref4_rows), ("porthole/portholeref4.iv", Rows.laid_porthole_portholeref4_iv), ("porthole/portholeref4.sigma", Rows.laid_porthole_portholeref4_sigma)] W := h
  obtain ⟨ps, hv, _⟩ := h'
  obtain ⟨h1, ps', h2⟩ := gb_of_vars hv
  exact ⟨h1, gq_of_vars h2⟩
def laidRo : Obj → Obj
  | .cells _ t frozen => .cells (rowI.map (Value.int .i64)).toArray t frozen
  | o => o
def laidSi : Obj → Obj
  | .cells _ t frozen => .cells (sigI.map (Value.int .i64)).toArray t frozen
  | o => o
set_option maxRecDepth 100000 in
theorem laidWorldR_met (os : Os) (args : Array Value) : laidMetH Tryd.prog [("porthole/blake.iv", Rows.laid_porthole_blake_iv), ("porthole/blake.sigma", Rows.laid_porthole_blake_sigma), ("porthole/portholeref4.rows", Rows.laid_porthole_portholeref4_rows), ("porthole/portholeref4.iv", Rows.laid_porthole_portholeref4_iv), ("porthole/portholeref4.sigma", Rows.laid_porthole_portholeref4_sigma)] (({ World.holding Tryd.prog os ⟨#[], #[], []⟩ with heap := ((((((World.holding Tryd.prog os ⟨#[], #[], []⟩).heap.modify 3 laidIv).modify 4 laidSg).modify 1 laidRo).modify 0 laidIv).modify 2 laidSi) } : World).forCall (fun _ _ => 0) ⟨#[], args, []⟩).memory :=
  laidMetH_of_parts (laidMet_of_run' 8 (by kernel_rfl) (by kernel_rfl)) (by kernel_rfl)
end Go.Proofs.YtiicepinnfgknaaDoor
