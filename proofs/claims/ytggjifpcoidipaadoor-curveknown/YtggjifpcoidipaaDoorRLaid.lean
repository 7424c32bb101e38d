/-
  What the condition on the package variable prime gives a walk, and a world that meets it. No statement of the seat is proved here.
-/
import Derived.Test.YtggjifpcoidipaaDoorFOpen
import Derived.Test.YtggjifpcoidipaaDoorRAtl
import Derived.Test.YtggjifpcoidipaaDoorRows
import Derived.ChangeSame
import Derived.ChangeVars
import Derived.JoinedOf
import Derived.RowKit
import Derived.LaidLaws
import Derived.LaidHandle
namespace Go.Proofs.YtggjifpcoidipaaDoor
open Go.ChangeShapes Go.WideShapes Go.ChangeAt Go.RowKit

theorem gPrime : Tryd.prog.globalNamed "porthole/portholeref1.prime" = some 0 := by kernel_rfl
theorem gPrimeType : (Tryd.prog.globals[0]?).map (·.type) = some 31 := by kernel_rfl
theorem cellsWord : Tryd.prog.cellsOf 24 = 1 := by kernel_rfl
/-- The variable's cells hold the prime's digits. -/
theorem gp_of_laid {W : World} (h : laidMetH Tryd.prog [("porthole/portholeref1.prime", Rows.laid_porthole_portholeref1_prime)] W) : Gp W := by
  have h' : laidMet Tryd.prog [("porthole/portholeref1.prime", Rows.laid_porthole_portholeref1_prime)] W := h
  obtain ⟨ps, ⟨g, t, cs, fuel, p, q, hg, ht, hvar, hd, _, _⟩, _⟩ := h'
  obtain rfl := Option.some.inj (gPrime.symm.trans hg)
  obtain rfl := Option.some.inj (gPrimeType.symm.trans ht)
  obtain ⟨xs, m, _, hx, hlen, hxl, hall⟩ := DataW.trod_array Tryd.underlying31 hd
  have hx1 : (DataW.agg (pd.map fun n => (.lit (.int .u64 n) : DataW Unit))) = .agg (xs.map (·.1)) := congrArg Prod.fst hx
  have hx2 := DataW.agg.inj hx1
  intro j v hv
  rw [Nat.zero_add, World.var?_cell gPrime hvar j]
  have hj : j < 16 := by
    have := (List.getElem?_eq_some_iff.1 hv).1
    rw [List.length_map, pd_len] at this
    exact this
  have hc := hall j hj
  rw [List.getElem?_eq_getElem (by omega), cellsWord, Nat.mul_one] at hc
  obtain ⟨n, h1, h2, _⟩ := DataW.trod_int Tryd.underlying24 hc
  have h3 : ((cs.toList.drop j).take 1)[0]? = some (.int .u64 n) := by rw [h1]; rfl
  rw [List.getElem?_take_of_lt (by decide), List.getElem?_drop, Nat.add_zero, Array.getElem?_toList] at h3
  have h4 : (xs.map (·.1))[j]? = some (.lit (.int .u64 n)) := by rw [List.getElem?_map, List.getElem?_eq_getElem (by omega), h2]; rfl
  rw [← hx2, List.getElem?_map] at h4
  rw [List.getElem?_map] at hv
  rw [h3]
  cases e : pd[j]? with
  | none => rw [e] at hv; cases hv
  | some y =>
    rw [e] at hv h4
    simp only [Option.map_some, Option.some.injEq] at hv h4
    injection h4 with h5
    injection h5 with _ h6
    rw [← hv, h6]

/-- The variable's block, as the text lays it; a world with it meets the condition. -/
def laidObj : Obj → Obj
  | .cells _ t frozen => .cells (pd.map (Value.int .u64)).toArray t frozen
  | o => o
theorem laidWorld_met (os : Os) (args : Array Value) : laidMetH Tryd.prog [("porthole/portholeref1.prime", Rows.laid_porthole_portholeref1_prime)] (({ World.holding Tryd.prog os ⟨#[], #[], []⟩ with heap := (World.holding Tryd.prog os ⟨#[], #[], []⟩).heap.modify 0 laidObj } : World).forCall (fun _ _ => 0) ⟨#[], args, []⟩).memory :=
  laidMetH_of_parts (laidMet_of_run' 8 (by kernel_rfl) (by kernel_rfl)) (by kernel_rfl)
end Go.Proofs.YtggjifpcoidipaaDoor
