/-
  A slice of portholehand's Raws that came in. No statement of the seat is proved here.
-/
import Derived.Test.YtifcdmiopanedaaDoorKOpen
import Derived.Test.YtifcdmiopanedaaDoorTTs
import Derived.Deep.Slices
namespace Go.Proofs.YtifcdmiopanedaaDoor
open Go.ChangeShapes Go.WideShapes Go.ChangeAt Go.RowKit Go.Deep

theorem one_ofR {α : Type} {l : List α} {i : Nat} {x : α} (h : (l.drop i).take 1 = [x]) : l[i]? = some x := by
  have h2 : ((l.drop i).take 1)[0]? = some x := by rw [h]; rfl
  rwa [List.getElem?_take_of_lt (by decide), List.getElem?_drop, Nat.add_zero] at h2
theorem cellsRaw : Tryd.prog.cellsOf 66 = 5 := by kernel_rfl
theorem cellsIR : Tryd.prog.cellsOf 3 = 1 := by kernel_rfl
theorem open_raws {H : Type} {enc : TypeId × Value → H} {W : World} {base : Nat} {spare : Nat → Bool} {held : Bool} {a : Option Addr} {len cap : Nat} {d : DataW H} {p : List MemPlace} (h : DataW.Trod enc Tryd.prog W base spare held 44 (.slice a len cap) d p) : RdR W a len := by
  obtain ⟨fuel, hf⟩ := h
  rcases open_slice Tryd.underlying44 hf with ⟨hcs, _⟩ | ⟨x, l, c, m, n, D, Pl, hcs, _, hl, hm, hmm, hx, hall⟩
  · simp [Value.cells] at hcs
    obtain ⟨rfl, rfl, rfl⟩ := hcs
    exact fun i h => by omega
  · simp [Value.cells] at hcs
    obtain ⟨rfl, rfl, rfl⟩ := hcs
    have hlm : len ≤ m := by rw [hmm]; split <;> omega
    intro i hi
    have hspot : x.spot = none := by
      obtain ⟨cs', h1, _⟩ := hall 0 (by omega)
      obtain ⟨_, hl36, hcell⟩ := World.cells?_some h1
      rw [cellsRaw] at hl36 hcell
      have hc := hcell 0 (by decide)
      rw [List.getElem?_eq_getElem (by omega)] at hc
      simpa [Addr.add] using World.cell?_spot hc
    obtain ⟨b, off, spot⟩ := x
    dsimp only at hspot
    subst hspot
    obtain ⟨cs', h1, h2⟩ := hall i (by omega)
    obtain ⟨_, hl36, hcell⟩ := World.cells?_some h1
    rw [cellsRaw] at hl36 hcell
    obtain ⟨xs, k, hk, hxy, _, hxl, hfd⟩ := DataW.trod_struct Tryd.underlying66 h2
    match xs, hxl with
    | [y0, y1, y2, y3, y4], _ =>
      have g0 : DataW.trod enc Tryd.prog W base spare held k 3 ((cs'.drop 0).take (Tryd.prog.cellsOf 3)) = some y0 := hfd 0 _ rfl
      rw [cellsIR] at g0
      obtain ⟨v0, e0, _, w0⟩ := DataW.trod_int Tryd.underlying3 g0
      have g1 : DataW.trod enc Tryd.prog W base spare held k 3 ((cs'.drop 1).take (Tryd.prog.cellsOf 3)) = some y1 := hfd 1 _ rfl
      rw [cellsIR] at g1
      obtain ⟨v1, e1, _, w1⟩ := DataW.trod_int Tryd.underlying3 g1
      have g2 : DataW.trod enc Tryd.prog W base spare held k 3 ((cs'.drop 2).take (Tryd.prog.cellsOf 3)) = some y2 := hfd 2 _ rfl
      rw [cellsIR] at g2
      obtain ⟨v2, e2, _, w2⟩ := DataW.trod_int Tryd.underlying3 g2
      have g3 : DataW.trod enc Tryd.prog W base spare held k 3 ((cs'.drop 3).take (Tryd.prog.cellsOf 3)) = some y3 := hfd 3 _ rfl
      rw [cellsIR] at g3
      obtain ⟨v3, e3, _, w3⟩ := DataW.trod_int Tryd.underlying3 g3
      have g4 : DataW.trod enc Tryd.prog W base spare held k 3 ((cs'.drop 4).take (Tryd.prog.cellsOf 3)) = some y4 := hfd 4 _ rfl
      rw [cellsIR] at g4
      obtain ⟨v4, e4, _, w4⟩ := DataW.trod_int Tryd.underlying3 g4
      have hcs' : cs' = [.int .i64 v0, .int .i64 v1, .int .i64 v2, .int .i64 v3, .int .i64 v4] := by
        apply List.ext_getElem?
        intro j
        by_cases hj : j < 5
        · match j, hj with
          | 0, _ => rw [one_ofR e0]; rfl
          | 1, _ => rw [one_ofR e1]; rfl
          | 2, _ => rw [one_ofR e2]; rfl
          | 3, _ => rw [one_ofR e3]; rfl
          | 4, _ => rw [one_ofR e4]; rfl
        · rw [List.getElem?_eq_none (by omega), List.getElem?_eq_none (by simp; omega)]
      refine ⟨b, off, v0, v1, v2, v3, v4, rfl, fun j v hv => ?_, bounds_i64 w0, bounds_i64 w1, bounds_i64 w2, bounds_i64 w3, bounds_i64 w4⟩
      have hj : j < 5 := by
        have := (List.getElem?_eq_some_iff.1 hv).1
        simpa using this
      rw [← hcs', ← hcell j hj] at hv
      rw [← hv, add_add]
      congr 1
      rw [Go.WideShapes.add_plain, Nat.add_assoc]
end Go.Proofs.YtifcdmiopanedaaDoor
