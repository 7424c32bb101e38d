/-
  Slices of slices of bytes, of truth values that came in, each within the form's own reach. No statement of the seat is proved here.
-/
import Derived.Test.YtjmdgmbkkkoamaaKRow
import Derived.Test.YtjmdgmbkkkoamaaKOpen
import Derived.Deep.Matrix
import Derived.Deep.Grids
namespace Go.Proofs.Ytjmdgmbkkkoamaa
open Go.ChangeShapes Go.WideShapes Go.ChangeAt Go.RowKit Go.Deep

theorem cellsS9 : Try.prog.cellsOf 25 = 1 := by kernel_rfl
theorem weights_all {H : Type} {P : Program} {e : TypeId} : ∀ {ds : List (DataW H)} {d : DataW H}, d ∈ ds → ∀ n ∈ d.weights P e, n ∈ DataW.weightsAll P e ds
  | d0 :: ds, d, hd, n, hn => by
    simp only [DataW.weightsAll, List.mem_append]
    rcases List.mem_cons.1 hd with rfl | h
    · exact .inl hn
    · exact .inr (weights_all h n hn)
  | [], _, hd, _, _ => by simp at hd
/-- Each text of a list that came in is within the form's own reach. -/
def Few9 (L : List (List Int)) : Prop := ∀ i : Nat, (L[i]?.getD []).length ≤ 140737488351232
theorem open_texts {H : Type} {enc : TypeId × Value → H} {W : World} {base : Nat} {held : Bool} {a : Option Addr} {len cap : Nat} {d : DataW H} {p : List MemPlace} {ts : List TypeId} {ds : List (DataW H)} (h : DataW.Trod enc Try.prog W base (fun _ => true) held 35 (.slice a len cap) d p)
    (hsz : (DataW.weightsEach Try.prog ts ds).all (· ≤ reachBytes) = true) (j : Nat) (ht : ts[j]? = some 35) (hd : ds[j]? = some d) :
    ∃ L, RdL W a len L ∧ Few9 L := by
  obtain ⟨fuel, hf⟩ := h
  rcases open_int_rows Try.underlying35 Try.underlying25 Try.underlying5 cellsS9 cells5 hf with ⟨hcs, hx⟩ | ⟨x, l, c, A, N, C, Z, hcs, _, hl, hm, hx, hrow⟩
  · simp [Value.cells] at hcs
    obtain ⟨rfl, rfl, rfl⟩ := hcs
    exact ⟨[], ⟨rfl, fun h => by omega⟩, fun i => by simp⟩
  · simp [Value.cells] at hcs
    obtain ⟨rfl, rfl, rfl⟩ := hcs
    simp only [Prod.mk.injEq] at hx
    obtain ⟨hdd, _⟩ := hx
    refine ⟨(List.range len).map fun r => if A r = none then [] else (Z r).take (N r), ⟨by simp, fun h0 => ?_⟩, fun i => ?_⟩
    · obtain ⟨b, off, spot⟩ := x
      have hspot : spot = none := by simpa [Addr.add] using World.cell?_spot (hrow 0 (by omega)).1
      subst hspot
      refine ⟨b, off, rfl, fun i hi => ?_⟩
      obtain ⟨hc, h1, h2, h3, h4, h5, h6⟩ := hrow i (by omega)
      refine ⟨A i, N i, C i, by rw [← Go.WideShapes.add_plain]; exact hc, ?_⟩
      rw [List.getElem?_map, List.getElem?_range hi]
      simp only [Option.map_some, Option.getD_some]
      cases hA : A i with
      | none =>
        have e1 := h5 hA
        have e2 : N i = 0 := by omega
        rw [if_pos rfl, e1, e2]
        exact Rd.nil _ _ _ (fun _ => rfl)
      | some y =>
        rw [if_neg (by simp)]
        obtain ⟨_, hcell⟩ := h6 y hA
        refine ⟨by rw [List.length_take]; omega, h1, (fun h => by cases h), fun m hm' => bounds_u8 (h4 m (List.mem_of_mem_take hm')), fun hpos => ?_⟩
        obtain ⟨b2, o2, rfl, hc2⟩ := ints_at (zs := Z i) (fun j hj => hcell j (by omega)) (by omega)
        refine ⟨b2, o2, rfl, fun j hj => ?_⟩
        rw [hc2 j (by omega), List.getD_eq_getElem?_getD, List.getElem?_take_of_lt hj]
    · by_cases hi : i < len
      · rw [List.getElem?_map, List.getElem?_range hi]
        simp only [Option.map_some, Option.getD_some]
        by_cases hA : A i = none
        · rw [if_pos hA]
          simp
        · rw [if_neg hA]
          obtain ⟨y, hy⟩ := Option.ne_none_iff_exists'.1 hA
          rw [hdd] at hd
          have hmem : intRow (H := H) .u8 (A i) (N i) (Z i) ∈ (List.range len).map fun r => intRow (H := H) .u8 (A r) (N r) (Z r) := List.mem_map.2 ⟨i, List.mem_range.2 hi, rfl⟩
          have hw : ((lits (H := H) .u8 ((Z i).take (N i))).length + (lits (H := H) .u8 ((Z i).drop (N i))).length) * Try.prog.bytesOf 5 ∈ DataW.weightsEach Try.prog ts ds := by
            refine DataW.weights_mem_each ht hd _ ?_
            simp only [DataW.weights, Try.underlying35]
            refine List.mem_cons_of_mem _ (List.mem_append_left _ (weights_all hmem _ ?_))
            simp only [intRow, hy, DataW.weights, Try.underlying25]
            exact List.mem_cons_self
          have := List.all_eq_true.1 hsz _ hw
          rw [bytes5] at this
          simp only [lits, List.length_map, List.length_take, List.length_drop, reachBytes, decide_eq_true_eq] at this ⊢
          omega
      · rw [List.getElem?_eq_none (by simp; omega)]
        simp
theorem cellsB9 : Try.prog.cellsOf 4 = 1 := by kernel_rfl
/-- A slice of truth values. -/
structure Rb (w : World) (a : Option Addr) (len : Nat) (l : List Bool) : Prop where
  hlen : l.length = len
  cell : 0 < len → ∃ b off, a = some ⟨b, off, none⟩ ∧ ∀ i, i < len → w.cell? ⟨b, off + i, none⟩ = some (.bool (l[i]?.getD false))
theorem open_truths {H : Type} {enc : TypeId × Value → H} {W : World} {base : Nat} {held : Bool} {a : Option Addr} {len cap : Nat} {d : DataW H} {p : List MemPlace} (h : DataW.Trod enc Try.prog W base (fun _ => true) held 36 (.slice a len cap) d p) :
    ∃ l, Rb W a len l := by
  obtain ⟨fuel, hf⟩ := h
  rcases open_bools Try.underlying36 Try.underlying4 cellsB9 hf with ⟨hcs, hx⟩ | ⟨x, l, c, B, hcs, _, hl, hm, hx, hrow⟩
  · simp [Value.cells] at hcs
    obtain ⟨rfl, rfl, rfl⟩ := hcs
    exact ⟨[], ⟨rfl, fun h => by omega⟩⟩
  · simp [Value.cells] at hcs
    obtain ⟨rfl, rfl, rfl⟩ := hcs
    refine ⟨(List.range len).map B, ⟨by simp, fun h0 => ?_⟩⟩
    obtain ⟨b, off, spot⟩ := x
    have hspot : spot = none := by simpa [Addr.add] using World.cell?_spot (hrow 0 (by omega))
    subst hspot
    refine ⟨b, off, rfl, fun i hi => ?_⟩
    have hc := hrow i (by omega)
    rw [← Go.WideShapes.add_plain, hc, List.getElem?_map, List.getElem?_range hi]
    rfl
end Go.Proofs.Ytjmdgmbkkkoamaa
