/-
  Texts of digits, two to a byte. No statement of the seat is proved here.
-/
import Derived.Test.YtifcdmiopanedaaDoorKBase
namespace Go.Proofs.YtifcdmiopanedaaDoor
open Go.RowKit

def sd (s : ByteArray) : List Int := s.data.toList.map (fun u => (u.toNat : Int))
theorem idx_str (s : ByteArray) (j : Nat) (h : j < s.size) (w : World) : Sem.run Tryd.prog (Instr.index 9 (.string s) (.int .i64 (j : Int))) w = .ok (.int .u8 (sd s)[j]!) w := by
  rw [run_index_string (P := Tryd.prog) _ _ s _ _ Tryd.underlying9, dif_pos ⟨by omega, by omega⟩]
  have e : (sd s)[j]? = some ((s.data[j]'h).toNat : Int) := by
    unfold sd
    rw [List.getElem?_map, Array.getElem?_toList, Array.getElem?_eq_getElem h]
    rfl
  have e2 : (sd s)[j]! = ((s.data[j]'h).toNat : Int) := by rw [List.getElem!_eq_getElem?_getD, e]; rfl
  rw [e2]
  rfl
/-- A digit. -/
def dv (c : Int) : Int := if 97 ≤ c then c - 87 else c - 48
def okd (c : Int) : Bool := (decide (48 ≤ c) && decide (c ≤ 57)) || (decide (97 ≤ c) && decide (c ≤ 102))
def hxl (d : List Int) : Nat → List Int
  | 0 => []
  | i + 1 => hxl d i ++ [16 * dv d[2 * i]! + dv d[2 * i + 1]!]
theorem hxl_len (d : List Int) : ∀ i, (hxl d i).length = i
  | 0 => rfl
  | i + 1 => by rw [hxl, List.length_append, hxl_len d i]; rfl
theorem okd_dv {c : Int} (h : okd c = true) : 0 ≤ dv c ∧ dv c ≤ 15 ∧ 48 ≤ c ∧ c ≤ 102 ∧ (97 ≤ c → dv c = c - 87) ∧ (¬ 97 ≤ c → dv c = c - 48) := by
  unfold okd at h
  simp only [Bool.or_eq_true, Bool.and_eq_true, decide_eq_true_eq] at h
  unfold dv
  split <;> omega
theorem okd_at {d : List Int} (h : d.all okd = true) {j : Nat} (hj : j < d.length) : okd d[j]! = true := by
  rw [getElem!_pos d j hj]
  exact List.all_eq_true.1 h _ (List.getElem_mem hj)
theorem hxl_byt {d : List Int} (h : d.all okd = true) : ∀ i, 2 * i ≤ d.length → Byt (hxl d i)
  | 0, _ => Byt.nil
  | i + 1, hi => by
    have h0 := okd_dv (okd_at h (j := 2 * i) (by omega))
    have h1 := okd_dv (okd_at h (j := 2 * i + 1) (by omega))
    rw [hxl]
    exact (hxl_byt h i (by omega)).app (Byt.cons (by omega) (by omega) Byt.nil)
end Go.Proofs.YtifcdmiopanedaaDoor
