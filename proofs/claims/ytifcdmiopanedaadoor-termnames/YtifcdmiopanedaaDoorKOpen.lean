/-
  How arrays and slices of bytes that came in are opened. No statement of the seat is proved here.
-/
import Derived.Test.YtifcdmiopanedaaDoorKGen
import Derived.ProofKit
import Derived.OpenShut
import Derived.ShutString
import Derived.ChangeOld
import Derived.SizedLaws
namespace Go.Proofs.YtifcdmiopanedaaDoor
open Go.ChangeShapes Go.WideShapes Go.ChangeAt Go.RowKit

theorem own : ownKnob Tryd.prog.godebug = none := by kernel_rfl
theorem laidOut : laidOutB Tryd.prog = true := by kernel_rfl
theorem bytes5 : Tryd.prog.bytesOf 5 = 1 := by kernel_rfl
theorem cells5 : Tryd.prog.cellsOf 5 = 1 := by kernel_rfl
theorem cells32 : Tryd.prog.cellsOf 91 = 32 := by kernel_rfl
def intIn : Value → Int
  | .int _ n => n
  | _ => 0
theorem open_arr32 {H : Type} {enc : TypeId × Value → H} {W : World} {b0 base : Nat} {spare : Nat → Bool} {held : Bool} {v : Value} {d : DataW H} {p : List MemPlace} (hval : Value.okWide Tryd.prog W .any b0 91 v) (h : DataW.Trod enc Tryd.prog W base spare held 91 v d p) :
    ∃ l, v = (.agg (List.map (Value.int .u8) l).toArray) ∧ Bn 32 l := by
  unfold Value.okWide at hval
  rw [Tryd.underlying91] at hval
  obtain ⟨cs, rfl, hsz, _⟩ := hval
  rw [cells32] at hsz
  obtain ⟨fuel, hf⟩ := h
  obtain ⟨xs, m, _, _, _, hxl, hall⟩ := DataW.trod_array Tryd.underlying91 hf
  have key : ∀ i (hi : i < cs.size), ∃ n, cs[i] = .int .u8 n ∧ 0 ≤ n ∧ n ≤ 255 := by
    intro i hi
    have hx := hall i (by omega)
    rw [List.getElem?_eq_getElem (by omega), cells5, Nat.mul_one] at hx
    obtain ⟨n, h1, _, hw⟩ := DataW.trod_int Tryd.underlying5 hx
    have hb := bounds_u8 hw
    refine ⟨n, ?_, hb⟩
    have h2 : ((cs.toList.drop i).take 1)[0]? = some (.int .u8 n) := by
      have : ((Value.agg cs).cells.toList.drop i).take 1 = [.int .u8 n] := h1
      have e : (Value.agg cs).cells = cs := rfl
      rw [e] at this
      rw [this]
      rfl
    rw [List.getElem?_take_of_lt (by decide), List.getElem?_drop, Nat.add_zero] at h2
    rw [Array.getElem?_toList, Array.getElem?_eq_getElem hi] at h2
    exact Option.some.inj h2
  refine ⟨cs.toList.map intIn, ?_, ?_, ?_⟩
  · congr 1
    apply Array.ext
    · simp
    · intro i h1 h2
      obtain ⟨n, hn, _⟩ := key i h1
      simp [hn, intIn]
  · rw [List.length_map, Array.length_toList, hsz]
  · intro x hx
    obtain ⟨y, hy, rfl⟩ := List.mem_map.1 hx
    obtain ⟨i, hi, rfl⟩ := List.getElem_of_mem hy
    obtain ⟨n, hn, hb⟩ := key i (by simpa using hi)
    rw [Array.getElem_toList, hn]
    exact hb
/-- A slice of bytes that came in. -/
theorem open_bytes {H : Type} {enc : TypeId × Value → H} {W : World} {base : Nat} {spare : Nat → Bool} {held : Bool} {a : Option Addr} {len cap : Nat} {d : DataW H} {p : List MemPlace} (h : DataW.Trod enc Tryd.prog W base spare held 69 (.slice a len cap) d p) :
    ∃ l, Rd W a len cap l ∧ ((d = .nil ∧ len = 0) ∨ ∃ e s, d = .slice e s ∧ len ≤ e.length + s.length) := by
  obtain ⟨fuel, hf⟩ := h
  rcases open_ints Tryd.underlying69 Tryd.underlying5 cells5 hf with ⟨hcs, hx⟩ | ⟨x, l, c, zs, hcs, _, hl, hm, hz, hx, hcell, hwz⟩
  · simp [Value.cells] at hcs
    obtain ⟨rfl, rfl, rfl⟩ := hcs
    simp only [Prod.mk.injEq] at hx
    exact ⟨[], Rd.nil _ _ _ (fun _ => rfl), .inl ⟨hx.1, rfl⟩⟩
  · simp [Value.cells] at hcs
    obtain ⟨rfl, rfl, rfl⟩ := hcs
    simp only [Prod.mk.injEq] at hx
    have hzl : len ≤ zs.length := by rw [hz]; split <;> omega
    refine ⟨zs.take len, ⟨by rw [List.length_take]; omega, hl, (fun h => by cases h), fun n hn => bounds_u8 (hwz n (List.mem_of_mem_take hn)), fun h0 => ?_⟩, .inr ⟨_, _, hx.1, ?_⟩⟩
    · obtain ⟨b, off, rfl, hc⟩ := ints_at hcell (by omega)
      refine ⟨b, off, rfl, fun i hi => ?_⟩
      rw [hc i (by omega), List.getD_eq_getElem?_getD, List.getElem?_take_of_lt hi]
    · simp only [lits, List.length_map, List.length_take, List.length_drop]
      omega
/-- Its length is within the form's own reach. -/
theorem reach_bytes {H : Type} {ts : List TypeId} {ds : List (DataW H)} {d : DataW H} {len : Nat} (hsz : (DataW.weightsEach Tryd.prog ts ds).all (· ≤ reachBytes) = true) (j : Nat) (ht : ts[j]? = some 69) (hd : ds[j]? = some d)
    (h : (d = .nil ∧ len = 0) ∨ ∃ e s, d = .slice e s ∧ len ≤ e.length + s.length) : len ≤ 140737488351232 := by
  rcases h with ⟨_, rfl⟩ | ⟨e, s, rfl, hl⟩
  · omega
  · have := sized_slice hsz (j := j) (t := 69) (e := 5) ht hd Tryd.underlying69
    rw [bytes5] at this
    simp only [reachBytes] at this
    omega
end Go.Proofs.YtifcdmiopanedaaDoor
