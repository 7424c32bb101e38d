/-
  What the condition on the package variable rows gives a walk, and a world that meets it. No statement of the seat is proved here.
-/
import Derived.Test.YtppmodncljigcaaDoorKOpen
import Derived.Test.YtppmodncljigcaaDoorRBlk
import Derived.Test.YtppmodncljigcaaDoorRows
import Derived.ChangeSame
import Derived.ChangeVars
import Derived.JoinedOf
import Derived.RowKit
import Derived.LaidLaws
import Derived.LaidHandle
namespace Go.Proofs.YtppmodncljigcaaDoor
open Go.ChangeShapes Go.WideShapes Go.ChangeAt Go.RowKit

theorem gRows : Tryd.prog.globalNamed "porthole/portholeref4.rows" = some 0 := by kernel_rfl
theorem gRowsType : (Tryd.prog.globals[0]?).map (·.type) = some 73 := by kernel_rfl
theorem cellsInt : Tryd.prog.cellsOf 3 = 1 := by kernel_rfl
theorem cellsRow : Tryd.prog.cellsOf 72 = 4 := by kernel_rfl
def rowD : List (DataW Unit) := [.agg [.lit (.int .i64 0), .lit (.int .i64 4), .lit (.int .i64 8), .lit (.int .i64 12)], .agg [.lit (.int .i64 1), .lit (.int .i64 5), .lit (.int .i64 9), .lit (.int .i64 13)], .agg [.lit (.int .i64 2), .lit (.int .i64 6), .lit (.int .i64 10), .lit (.int .i64 14)], .agg [.lit (.int .i64 3), .lit (.int .i64 7), .lit (.int .i64 11), .lit (.int .i64 15)], .agg [.lit (.int .i64 0), .lit (.int .i64 5), .lit (.int .i64 10), .lit (.int .i64 15)], .agg [.lit (.int .i64 1), .lit (.int .i64 6), .lit (.int .i64 11), .lit (.int .i64 12)], .agg [.lit (.int .i64 2), .lit (.int .i64 7), .lit (.int .i64 8), .lit (.int .i64 13)], .agg [.lit (.int .i64 3), .lit (.int .i64 4), .lit (.int .i64 9), .lit (.int .i64 14)]]
theorem row_data (i r : Nat) (hi : i < 8) (hr : r < 4) : ∃ E, rowD[i]? = some (.agg E) ∧ E[r]? = some (.lit (.int .i64 (rowL[4 * i + r]?.getD 0))) := by
  match i, hi with
  | 0, _ => match r, hr with | 0, _ => exact ⟨_, rfl, rfl⟩ | 1, _ => exact ⟨_, rfl, rfl⟩ | 2, _ => exact ⟨_, rfl, rfl⟩ | 3, _ => exact ⟨_, rfl, rfl⟩
  | 1, _ => match r, hr with | 0, _ => exact ⟨_, rfl, rfl⟩ | 1, _ => exact ⟨_, rfl, rfl⟩ | 2, _ => exact ⟨_, rfl, rfl⟩ | 3, _ => exact ⟨_, rfl, rfl⟩
  | 2, _ => match r, hr with | 0, _ => exact ⟨_, rfl, rfl⟩ | 1, _ => exact ⟨_, rfl, rfl⟩ | 2, _ => exact ⟨_, rfl, rfl⟩ | 3, _ => exact ⟨_, rfl, rfl⟩
  | 3, _ => match r, hr with | 0, _ => exact ⟨_, rfl, rfl⟩ | 1, _ => exact ⟨_, rfl, rfl⟩ | 2, _ => exact ⟨_, rfl, rfl⟩ | 3, _ => exact ⟨_, rfl, rfl⟩
  | 4, _ => match r, hr with | 0, _ => exact ⟨_, rfl, rfl⟩ | 1, _ => exact ⟨_, rfl, rfl⟩ | 2, _ => exact ⟨_, rfl, rfl⟩ | 3, _ => exact ⟨_, rfl, rfl⟩
  | 5, _ => match r, hr with | 0, _ => exact ⟨_, rfl, rfl⟩ | 1, _ => exact ⟨_, rfl, rfl⟩ | 2, _ => exact ⟨_, rfl, rfl⟩ | 3, _ => exact ⟨_, rfl, rfl⟩
  | 6, _ => match r, hr with | 0, _ => exact ⟨_, rfl, rfl⟩ | 1, _ => exact ⟨_, rfl, rfl⟩ | 2, _ => exact ⟨_, rfl, rfl⟩ | 3, _ => exact ⟨_, rfl, rfl⟩
  | 7, _ => match r, hr with | 0, _ => exact ⟨_, rfl, rfl⟩ | 1, _ => exact ⟨_, rfl, rfl⟩ | 2, _ => exact ⟨_, rfl, rfl⟩ | 3, _ => exact ⟨_, rfl, rfl⟩
/-- The variable's cells hold the rows. -/
theorem gr_of_laid {W : World} (h : laidMetH Tryd.prog [("porthole/portholeref4.rows", Rows.laid_porthole_portholeref4_rows)] W) : Gr W := by
  have h' : laidMet Tryd.prog [("porthole/portholeref4.rows", Rows.laid_porthole_portholeref4_rows)] W := h
  obtain ⟨ps, ⟨g, t, cs, fuel, p, q, hg, ht, hvar, hd, _, _⟩, _⟩ := h'
  obtain rfl := Option.some.inj (gRows.symm.trans hg)
  obtain rfl := Option.some.inj (gRowsType.symm.trans ht)
  obtain ⟨xs, m, _, hx, hlen, hxl, hall⟩ := DataW.trod_array Tryd.underlying73 hd
  have hx1 : (DataW.agg rowD : DataW Unit) = .agg (xs.map (·.1)) := congrArg Prod.fst hx
  have hx2 := DataW.agg.inj hx1
  intro j v hv
  rw [Nat.zero_add, World.var?_cell gRows hvar j]
  have hj : j < 32 := (List.getElem?_eq_some_iff.1 hv).1
  obtain ⟨E, hE, hEr⟩ := row_data (j / 4) (j % 4) (by omega) (by omega)
  have hc := hall (j / 4) (by omega)
  rw [List.getElem?_eq_getElem (by omega), cellsRow] at hc
  obtain ⟨ys, m2, _, hy, _, hyl, hall2⟩ := DataW.trod_array Tryd.underlying72 hc
  have hc2 := hall2 (j % 4) (by omega)
  rw [List.getElem?_eq_getElem (by omega), cellsInt, Nat.mul_one] at hc2
  obtain ⟨n, h1, h2, _⟩ := DataW.trod_int Tryd.underlying3 hc2
  have h3 : ((((cs.toList.drop (j / 4 * 4)).take 4).drop (j % 4)).take 1)[0]? = some (.int .i64 n) := by rw [h1]; rfl
  rw [List.getElem?_take_of_lt (by decide), List.getElem?_drop, Nat.add_zero, List.getElem?_take_of_lt (by omega), List.getElem?_drop, Array.getElem?_toList, show j / 4 * 4 + j % 4 = j by omega] at h3
  have e1 : rowD[j / 4]? = some (xs[j / 4]'(by omega)).1 := by rw [hx2, List.getElem?_map, List.getElem?_eq_getElem (by omega)]; rfl
  rw [hE, hy] at e1
  have e2 := DataW.agg.inj (Option.some.inj e1)
  rw [e2, List.getElem?_map, List.getElem?_eq_getElem (by omega), h2, show 4 * (j / 4) + j % 4 = j by omega] at hEr
  simp only [Option.map_some, Option.some.injEq] at hEr
  injection hEr with h5
  injection h5 with _ h6
  rw [List.getElem?_map] at hv
  rw [h3]
  cases e : rowL[j]? with
  | none => rw [e] at hv; cases hv
  | some y =>
    rw [e] at hv h6
    simp only [Option.map_some, Option.some.injEq, Option.getD_some] at hv h6
    rw [← hv, h6]

/-- The variable's block, as the text lays it; a world with it meets the condition. -/
def laidObj : Obj → Obj
  | .cells _ t frozen => .cells (rowL.map (Value.int .i64)).toArray t frozen
  | o => o
theorem laidWorld_met (os : Os) (args : Array Value) : laidMetH Tryd.prog [("porthole/portholeref4.rows", Rows.laid_porthole_portholeref4_rows)] (({ World.holding Tryd.prog os ⟨#[], #[], []⟩ with heap := (World.holding Tryd.prog os ⟨#[], #[], []⟩).heap.modify 0 laidObj } : World).forCall (fun _ _ => 0) ⟨#[], args, []⟩).memory :=
  laidMetH_of_parts (laidMet_of_run' 8 (by kernel_rfl) (by kernel_rfl)) (by kernel_rfl)
end Go.Proofs.YtppmodncljigcaaDoor
