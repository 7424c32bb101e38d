/-
  Several texts of one's own, laid together. No statement of the seat is proved here.
-/
import Derived.Test.YtlnbjehimabaiaaGreatDoorPk46
import Derived.Test.YtlnbjehimabaiaaGreatDoorPk7
import Derived.Test.YtlnbjehimabaiaaGreatDoorRows
import Derived.ChangeSame
import Derived.ChangeVars
import Derived.JoinedOf
import Derived.RowKit
import Derived.LaidLaws
import Derived.LaidHandle
import Derived.Test.YtlnbjehimabaiaaGreatDoorPk34
/-
 What the conditions on blake's package variables give a walk, and a world that meets them. No statement of the seat is proved here.
-/
namespace Go.Proofs.YtlnbjehimabaiaaGreatDoor
open Go.ChangeShapes Go.WideShapes Go.ChangeAt Go.RowKit
set_option maxRecDepth 8000

/-- A variable that is an array of numbers. -/
theorem vector_of {W : World} {name : String} {g : Nat} {t e : TypeId} {n fuel : Nat} {k : IntKind} {cs : Array Value} {p : List MemPlace} (l : List Int) (hl : l.length = n)
  (hg : Tryz.prog.globalNamed name = some g) (hvar : W.var? Tryz.prog name = some cs) (hu : Tryz.prog.underlying t = some (.array n e)) (he : Tryz.prog.underlying e = some (.int k)) (hc1 : Tryz.prog.cellsOf e = 1)
  (hd : DataW.trod (fun _ => ()) Tryz.prog W 0 (fun _ => true) false fuel t cs.toList = some (.agg (l.map fun x => .lit (.int k x)), p)) : W.rangeAt g 0 (l.map (Value.int k)) := by
 obtain ⟨xs, m, _, hx, hlen, hxl, hall⟩ := DataW.trod_array hu hd
 have hx1 : (DataW.agg (l.map fun x => (.lit (.int k x) : DataW Unit))) = .agg (xs.map (·.1)) := congrArg Prod.fst hx
 have hx2 := DataW.agg.inj hx1
 intro j v hv
 rw [Nat.zero_add, World.var?_cell hg hvar j]
 have hj : j < n := by
  have := (List.getElem?_eq_some_iff.1 hv).1
  rw [List.length_map, hl] at this
  exact this
 have hc := hall j hj
 rw [List.getElem?_eq_getElem (by omega), hc1, Nat.mul_one] at hc
 obtain ⟨y, h1, h2, _⟩ := DataW.trod_int he hc
 have h3 : ((cs.toList.drop j).take 1)[0]? = some (.int k y) := by rw [h1]; rfl
 rw [List.getElem?_take_of_lt (by decide), List.getElem?_drop, Nat.add_zero, Array.getElem?_toList] at h3
 have h4 : (xs.map (·.1))[j]? = some (.lit (.int k y)) := by rw [List.getElem?_map, List.getElem?_eq_getElem (by omega), h2]; rfl
 rw [← hx2, List.getElem?_map] at h4
 rw [List.getElem?_map] at hv
 rw [h3]
 cases e : l[j]? with
 | none => rw [e] at hv; cases hv
 | some z =>
  rw [e] at hv h4
  simp only [Option.map_some, Option.some.injEq] at hv h4
  injection h4 with h5
  injection h5 with _ h6
  rw [← hv, h6]
theorem flat_get (m : Nat) : ∀ (rows : List (List Int)), (∀ r ∈ rows, r.length = m) → ∀ (i r : Nat), i < rows.length → r < m → rows.flatten[m * i + r]? = (rows[i]?.getD [])[r]?
 | [], _, _, _, h, _ => absurd h (Nat.not_lt_zero _)
 | x :: rows, hm, 0, r, _, hr => by
  rw [List.flatten_cons, Nat.mul_zero, Nat.zero_add, List.getElem?_append_left (by rw [hm x (by simp)]; exact hr)]
  rfl
 | x :: rows, hm, i + 1, r, hi, hr => by
  have hx := hm x (by simp)
  rw [List.flatten_cons, List.getElem?_append_right (by rw [hx, Nat.mul_succ]; omega), hx, show m * (i + 1) + r - m = m * i + r by rw [Nat.mul_succ]; omega, flat_get m rows (fun y hy => hm y (by simp [hy])) i r (by simpa using hi) hr]
  rfl
/-- A variable that is an array of arrays of numbers. -/
theorem matrix_of {W : World} {name : String} {g : Nat} {t e i : TypeId} {n m fuel : Nat} {k : IntKind} {cs : Array Value} {p : List MemPlace} (rows : List (List Int)) (hl : rows.length = n) (hm : ∀ r ∈ rows, r.length = m) (h0 : 0 < m)
  (hg : Tryz.prog.globalNamed name = some g) (hvar : W.var? Tryz.prog name = some cs) (hu : Tryz.prog.underlying t = some (.array n e)) (hu2 : Tryz.prog.underlying e = some (.array m i)) (hi : Tryz.prog.underlying i = some (.int k)) (hc1 : Tryz.prog.cellsOf i = 1) (hcm : Tryz.prog.cellsOf e = m)
  (hd : DataW.trod (fun _ => ()) Tryz.prog W 0 (fun _ => true) false fuel t cs.toList = some (.agg (rows.map fun r => .agg (r.map fun x => .lit (.int k x))), p)) : W.rangeAt g 0 (rows.flatten.map (Value.int k)) := by
 obtain ⟨xs, _, _, hx, hlen, hxl, hall⟩ := DataW.trod_array hu hd
 have hx1 : (DataW.agg (rows.map fun r => (.agg (r.map fun x => .lit (.int k x)) : DataW Unit))) = .agg (xs.map (·.1)) := congrArg Prod.fst hx
 have hx2 := DataW.agg.inj hx1
 have hfl : rows.flatten.length = n * m := by
  have : ∀ (l : List (List Int)), (∀ r ∈ l, r.length = m) → l.flatten.length = l.length * m := fun l => by
   induction l with
   | nil => intro _; simp
   | cons x l ih => intro h; rw [List.flatten_cons, List.length_append, h x (by simp), ih (fun y hy => h y (by simp [hy])), List.length_cons, Nat.succ_mul, Nat.add_comm]
  rw [this rows hm, hl]
 intro j v hv
 rw [Nat.zero_add, World.var?_cell hg hvar j]
 have hj : j < n * m := by
  have := (List.getElem?_eq_some_iff.1 hv).1
  rw [List.length_map, hfl] at this
  exact this
 have hjn : j / m < n := (Nat.div_lt_iff_lt_mul h0).2 hj
 have hjm : j % m < m := Nat.mod_lt _ h0
 have hdm : m * (j / m) + j % m = j := Nat.div_add_mod j m
 have hc := hall (j / m) hjn
 rw [List.getElem?_eq_getElem (by omega), hcm] at hc
 obtain ⟨ys, _, _, hy, _, hyl, hall2⟩ := DataW.trod_array hu2 hc
 have hc2 := hall2 (j % m) hjm
 rw [List.getElem?_eq_getElem (by omega), hc1, Nat.mul_one] at hc2
 obtain ⟨y, h1, h2, _⟩ := DataW.trod_int hi hc2
 have h3 : ((((cs.toList.drop (j / m * m)).take m).drop (j % m)).take 1)[0]? = some (.int k y) := by rw [h1]; rfl
 rw [List.getElem?_take_of_lt (by decide), List.getElem?_drop, Nat.add_zero, List.getElem?_take_of_lt hjm, List.getElem?_drop, Array.getElem?_toList, Nat.mul_comm (j / m) m, hdm] at h3
 have e1 : (rows[j / m]?.map fun r => (.agg (r.map fun x => .lit (.int k x)) : DataW Unit)) = some (xs[j / m]'(by omega)).1 := by
  rw [← List.getElem?_map, hx2, List.getElem?_map, List.getElem?_eq_getElem (by omega)]
  rfl
 have hr : j / m < rows.length := by omega
 rw [List.getElem?_eq_getElem hr, hy] at e1
 have e2 := DataW.agg.inj (Option.some.inj e1)
 have e3 : (rows[j / m]'hr)[j % m]? = some y := by
  have e4 : ((rows[j / m]'hr).map fun x => (.lit (.int k x) : DataW Unit))[j % m]? = some (.lit (.int k y)) := by
   rw [e2, List.getElem?_map, List.getElem?_eq_getElem (by omega), h2]
   rfl
  rw [List.getElem?_map] at e4
  cases e : (rows[j / m]'hr)[j % m]? with
  | none => rw [e] at e4; cases e4
  | some z =>
   rw [e] at e4
   simp only [Option.map_some, Option.some.injEq] at e4
   injection e4 with h5
   injection h5 with _ h6
   rw [h6]
 have e5 := flat_get m rows hm (j / m) (j % m) hr hjm
 rw [hdm, List.getElem?_eq_getElem hr, Option.getD_some, e3] at e5
 rw [List.getElem?_map, e5] at hv
 rw [h3]
 exact hv
theorem cells4' : Tryz.prog.cellsOf 121 = 1 := by kernel_rfl
theorem cells16' : Tryz.prog.cellsOf 122 = 16 := by kernel_rfl
def sgI : List (List Int) := sg7.map (List.map Int.ofNat)
theorem gIv : Tryz.prog.globalNamed "porthole/blake.iv" = some 5 := by kernel_rfl
theorem gIvType : (Tryz.prog.globals[5]?).map (·.type) = some 138 := by kernel_rfl
theorem gSg : Tryz.prog.globalNamed "porthole/blake.sigma" = some 6 := by kernel_rfl
theorem gSgType : (Tryz.prog.globals[6]?).map (·.type) = some 202 := by kernel_rfl
theorem sgI_map : sgI.flatten.map (Value.int .u8) = List.map nb8 sg7.flatten := by kernel_rfl
set_option maxRecDepth 100000 in
theorem gb_of_vars {W : World} {r : List (String × DataW Unit)} {ps : List MemPlace} (h : DataW.LaidVars Tryz.prog W (("porthole/blake.iv", Rows.laid_porthole_blake_iv) :: ("porthole/blake.sigma", Rows.laid_porthole_blake_sigma) :: r) ps) : Gb W ∧ ∃ ps', DataW.LaidVars Tryz.prog W r ps' := by
 obtain ⟨g, t, cs, fuel, p, q, hg, ht, hvar, hd, ⟨g2, t2, cs2, fuel2, p2, q2, hg2, ht2, hvar2, hd2, hr, _⟩, _⟩ := h
 obtain rfl := Option.some.inj (gIv.symm.trans hg)
 obtain rfl := Option.some.inj (gIvType.symm.trans ht)
 obtain rfl := Option.some.inj (gSg.symm.trans hg2)
 obtain rfl := Option.some.inj (gSgType.symm.trans ht2)
 refine ⟨⟨vector_of (k := .u32) iv7 rfl gIv hvar Tryz.underlying138 Tryz.underlying121 cells4' hd, ?_⟩, _, hr⟩
 rw [← sgI_map]
 exact matrix_of (k := .u8) sgI rfl (by decide) (by decide) gSg hvar2 Tryz.underlying202 Tryz.underlying122 Tryz.underlying5 cells5 cells16' hd2
theorem gb_of_laid {W : World} (h : laidMetH Tryz.prog [("porthole/blake.iv", Rows.laid_porthole_blake_iv), ("porthole/blake.sigma", Rows.laid_porthole_blake_sigma)] W) : Gb W := by
 have h' : laidMet Tryz.prog [("porthole/blake.iv", Rows.laid_porthole_blake_iv), ("porthole/blake.sigma", Rows.laid_porthole_blake_sigma)] W := h
 obtain ⟨ps, hv, _⟩ := h'
 exact (gb_of_vars hv).1
/-- The variables' blocks, as the text lays them; a world with them meets the condition. -/
def laidIv : Obj → Obj
 | .cells _ t frozen => .cells (iv7.map (Value.int .u32)).toArray t frozen
 | o => o
def laidSg : Obj → Obj
 | .cells _ t frozen => .cells (sg7.flatten.map nb8).toArray t frozen
 | o => o
theorem laidWorldB_met (os : Os) (args : Array Value) : laidMetH Tryz.prog [("porthole/blake.iv", Rows.laid_porthole_blake_iv), ("porthole/blake.sigma", Rows.laid_porthole_blake_sigma)] (({ World.holding Tryz.prog os ⟨#[], #[], []⟩ with heap := ((World.holding Tryz.prog os ⟨#[], #[], []⟩).heap.modify 5 laidIv).modify 6 laidSg } : World).forCall (fun _ _ => 0) ⟨#[], args, []⟩).memory :=
 laidMetH_of_parts (laidMet_of_run' 8 (by kernel_rfl) (by kernel_rfl)) (by kernel_rfl)
end Go.Proofs.YtlnbjehimabaiaaGreatDoor
/-
 What the conditions on blake's package variables and on shake's give a walk, and a world that meets them. No statement of the seat is proved here.
-/
namespace Go.Proofs.YtlnbjehimabaiaaGreatDoor
open Go.ChangeShapes Go.WideShapes Go.ChangeAt Go.RowKit
set_option maxRecDepth 8000

theorem bytes_same {a b : ByteArray} (h : a.data.toList = b.data.toList) : a = b := by
 cases a
 cases b
 congr 1
 exact Array.ext' h
/-- A variable that is an array of texts. -/
theorem texts_of {W : World} {name : String} {g : Nat} {t e : TypeId} {n fuel : Nat} {cs : Array Value} {p : List MemPlace} (l : List ByteArray) (hl : l.length = n)
  (hg : Tryz.prog.globalNamed name = some g) (hvar : W.var? Tryz.prog name = some cs) (hu : Tryz.prog.underlying t = some (.array n e)) (he : Tryz.prog.underlying e = some .string) (hc1 : Tryz.prog.cellsOf e = 1)
  (hd : DataW.trod (fun _ => ()) Tryz.prog W 0 (fun _ => true) false fuel t cs.toList = some (.agg (l.map fun x => .lit (.string x.data.toList)), p)) : W.rangeAt g 0 (l.map Value.string) := by
 obtain ⟨xs, m, _, hx, hlen, hxl, hall⟩ := DataW.trod_array hu hd
 have hx1 : (DataW.agg (l.map fun x => (.lit (.string x.data.toList) : DataW Unit))) = .agg (xs.map (·.1)) := congrArg Prod.fst hx
 have hx2 := DataW.agg.inj hx1
 intro j v hv
 rw [Nat.zero_add, World.var?_cell hg hvar j]
 have hj : j < n := by
  have := (List.getElem?_eq_some_iff.1 hv).1
  rw [List.length_map, hl] at this
  exact this
 have hc := hall j hj
 rw [List.getElem?_eq_getElem (by omega), hc1, Nat.mul_one] at hc
 obtain ⟨y, h1, h2, _⟩ := DataW.trod_string he hc
 have h3 : ((cs.toList.drop j).take 1)[0]? = some (.string y) := by rw [h1]; rfl
 rw [List.getElem?_take_of_lt (by decide), List.getElem?_drop, Nat.add_zero, Array.getElem?_toList] at h3
 have h4 : (xs.map (·.1))[j]? = some (.lit (.string y.data.toList)) := by rw [List.getElem?_map, List.getElem?_eq_getElem (by omega), h2]; rfl
 rw [← hx2, List.getElem?_map] at h4
 rw [List.getElem?_map] at hv
 rw [h3]
 cases e : l[j]? with
 | none => rw [e] at hv; cases hv
 | some z =>
  rw [e] at hv h4
  simp only [Option.map_some, Option.some.injEq] at hv h4
  injection h4 with h5
  injection h5 with h6
  rw [← hv, bytes_same h6]
theorem gTk : Tryz.prog.globalNamed "porthole/shake.tokens" = some 0 := by kernel_rfl
theorem gTkType : (Tryz.prog.globals[0]?).map (·.type) = some 94 := by kernel_rfl
theorem cellsStr : Tryz.prog.cellsOf 9 = 1 := by kernel_rfl
theorem tokens_eq : (Rows.laid_porthole_shake_tokens : DataW Unit) = .agg ([tB 0, tB 1, tB 2].map fun x => .lit (.string x.data.toList)) := by kernel_rfl
set_option maxRecDepth 100000 in
theorem gs_of_laid {W : World} (h : laidMetH Tryz.prog [("porthole/blake.iv", Rows.laid_porthole_blake_iv), ("porthole/blake.sigma", Rows.laid_porthole_blake_sigma), ("porthole/shake.tokens", Rows.laid_porthole_shake_tokens)] W) : Gs W := by
 have h' : laidMet Tryz.prog [("porthole/blake.iv", Rows.laid_porthole_blake_iv), ("porthole/blake.sigma", Rows.laid_porthole_blake_sigma), ("porthole/shake.tokens", Rows.laid_porthole_shake_tokens)] W := h
 obtain ⟨ps, hv, _⟩ := h'
 obtain ⟨h1, ps', h2⟩ := gb_of_vars hv
 obtain ⟨g, t, cs, fuel, p, q, hg, ht, hvar, hd, _⟩ := h2
 obtain rfl := Option.some.inj (gTk.symm.trans hg)
 obtain rfl := Option.some.inj (gTkType.symm.trans ht)
 rw [tokens_eq] at hd
 exact ⟨h1, texts_of [tB 0, tB 1, tB 2] rfl gTk hvar Tryz.underlying94 Tryz.underlying9 cellsStr hd⟩
def laidTk : Obj → Obj
 | .cells _ t frozen => .cells #[.string (tB 0), .string (tB 1), .string (tB 2)] t frozen
 | o => o
set_option maxRecDepth 100000 in
theorem laidWorldS_met (os : Os) (args : Array Value) : laidMetH Tryz.prog [("porthole/blake.iv", Rows.laid_porthole_blake_iv), ("porthole/blake.sigma", Rows.laid_porthole_blake_sigma), ("porthole/shake.tokens", Rows.laid_porthole_shake_tokens)] (({ World.holding Tryz.prog os ⟨#[], #[], []⟩ with heap := ((((World.holding Tryz.prog os ⟨#[], #[], []⟩).heap.modify 5 laidIv).modify 6 laidSg).modify 0 laidTk) } : World).forCall (fun _ _ => 0) ⟨#[], args, []⟩).memory :=
 laidMetH_of_parts (laidMet_of_run' 8 (by kernel_rfl) (by kernel_rfl)) (by kernel_rfl)
end Go.Proofs.YtlnbjehimabaiaaGreatDoor
