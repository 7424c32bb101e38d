/-
  How an array of thirty-two bytes that came in is opened. No statement of the seat is proved here.
-/
import Derived.Test.YtggjifpcoidipaaDoorFLawM
import Derived.ProofKit
import Derived.OpenShut
import Derived.ShutString
import Derived.ChangeOld
namespace Go.Proofs.YtggjifpcoidipaaDoor
open Go.ChangeShapes Go.WideShapes Go.ChangeAt Go.RowKit

theorem own : ownKnob Tryd.prog.godebug = none := by kernel_rfl
theorem laidOut : laidOutB Tryd.prog = true := by kernel_rfl
theorem cells5 : Tryd.prog.cellsOf 5 = 1 := by kernel_rfl
theorem cells32 : Tryd.prog.cellsOf 22 = 32 := by kernel_rfl
def intIn : Value → Int
  | .int _ n => n
  | _ => 0
theorem open_arr32 {H : Type} {enc : TypeId × Value → H} {W : World} {b0 base : Nat} {spare : Nat → Bool} {held : Bool} {v : Value} {d : DataW H} {p : List MemPlace} (hval : Value.okWide Tryd.prog W .any b0 22 v) (h : DataW.Trod enc Tryd.prog W base spare held 22 v d p) :
    ∃ l, v = (.agg (List.map (Value.int .u8) l).toArray) ∧ By l := by
  unfold Value.okWide at hval
  rw [Tryd.underlying22] at hval
  obtain ⟨cs, rfl, hsz, _⟩ := hval
  rw [cells32] at hsz
  obtain ⟨fuel, hf⟩ := h
  obtain ⟨xs, m, _, _, _, hxl, hall⟩ := DataW.trod_array Tryd.underlying22 hf
  have key : ∀ i (hi : i < cs.size), ∃ n, cs[i] = .int .u8 n ∧ 0 ≤ n ∧ n ≤ 255 := by
    intro i hi
    have hx := hall i (by omega)
    rw [List.getElem?_eq_getElem (by omega), cells5, Nat.mul_one] at hx
    obtain ⟨n, h1, _, hw⟩ := DataW.trod_int Tryd.underlying5 hx
    have hb := bounds_u8 hw
    refine ⟨n, ?_, hb⟩
    have h2 : ((cs.toList.drop i).take 1)[0]? = some (.int .u8 n) := by
      have : ((Value.agg cs).cells.toList.drop i).take 1 = [.int .u8 n] := h1
      have e : (Value.agg cs).cells = cs := rfl
      rw [e] at this
      rw [this]
      rfl
    rw [List.getElem?_take_of_lt (by decide), List.getElem?_drop, Nat.add_zero] at h2
    rw [Array.getElem?_toList, Array.getElem?_eq_getElem hi] at h2
    exact Option.some.inj h2
  refine ⟨cs.toList.map intIn, ?_, ?_, ?_⟩
  · congr 1
    apply Array.ext
    · simp
    · intro i h1 h2
      obtain ⟨n, hn, _⟩ := key i h1
      simp [hn, intIn]
  · rw [List.length_map, Array.length_toList, hsz]
  · intro x hx
    obtain ⟨y, hy, rfl⟩ := List.mem_map.1 hx
    obtain ⟨i, hi, rfl⟩ := List.getElem_of_mem hy
    obtain ⟨n, hn, hb⟩ := key i (by simpa using hi)
    rw [Array.getElem_toList, hn]
    exact hb
end Go.Proofs.YtggjifpcoidipaaDoor
