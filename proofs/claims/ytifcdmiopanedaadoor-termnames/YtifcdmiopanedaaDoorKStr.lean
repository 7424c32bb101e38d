/-
  Strings as bytes: '[]byte(s)' and a copy of a string's bytes. No statement of the seat is proved here.
-/
import Derived.Test.YtifcdmiopanedaaDoorKHex
import Derived.Test.YtifcdmiopanedaaDoorKLit
import Derived.Lib.ConvBytes
import Derived.Lib.LazyBuf
namespace Go.Proofs.YtifcdmiopanedaaDoor
open Go.RowKit

theorem sd_byt (s : ByteArray) : Byt (sd s) := fun x hx => by
  unfold sd at hx
  obtain ⟨u, _, rfl⟩ := List.mem_map.1 hx
  have := u.toNat_lt
  constructor <;> omega
theorem sd_len (s : ByteArray) : (sd s).length = s.size := by
  unfold sd
  rw [List.length_map, Array.length_toList]
  rfl
theorem sd_str {l : List Int} (h : Byt l) : sd (strOfNums l) = l := by
  unfold sd
  rw [strOfNums_data, List.map_map]
  conv => rhs; rw [← List.map_id l]
  apply List.map_congr_left
  intro x hx
  obtain ⟨h0, h1⟩ := h x hx
  show ((UInt8.ofNat x.toNat).toNat : Int) = x
  have : x.toNat < 256 := by omega
  have e : (UInt8.ofNat x.toNat).toNat = x.toNat := by rw [UInt8.toNat_ofNat']; exact Nat.mod_eq_of_lt this
  rw [e]
  omega
theorem sd_cells (s : ByteArray) : (s.data.toList.map fun x => Value.int .u8 (x.toNat : Int)) = List.map (Value.int .u8) (sd s) := by
  unfold sd
  rw [List.map_map]
  rfl
/-- '[]byte(s)'. -/
theorem conv_str (s : ByteArray) (w : World) : ∃ c V, (convert 9 69 (.string s)).run Tryd.prog w = .ok (.slice (some ⟨w.heap.size, 0, none⟩) s.size c) V ∧ Rd V (some ⟨w.heap.size, 0, none⟩) s.size c (sd s) ∧ Below w.heap.size w V := by
  refine ⟨_, _, Lib.run_convert_string_bytes (P := Tryd.prog) w 9 69 5 s Tryd.underlying9 Tryd.underlying69 Tryd.underlying5, ⟨sd_len s, ?_, (fun e => by cases e), sd_byt s, fun _ => ⟨w.heap.size, 0, rfl, fun j hj => ?_⟩⟩, ?_⟩
  · exact grownCap_ge _ _ _ _
  · rw [Nat.zero_add, Lib.bytesWorld_cell w 5 s j hj]
    have hj2 : j < s.data.toList.length := by rw [Array.length_toList]; exact hj
    have e : (sd s)[j]? = some ((s.data.toList[j]'hj2).toNat : Int) := by
      unfold sd
      rw [List.getElem?_map, List.getElem?_eq_getElem hj2]
      rfl
    rw [e, List.getD_eq_getElem?_getD, List.getElem?_eq_getElem hj2]
    rfl
  · unfold Lib.bytesWorld
    exact ext_frz ((Ext.refl w).drew.trans (bel1 w.drew _)) _ _ (Nat.le_refl _)
/-- 'copy' of a string's bytes, all of which have room. -/
theorem copy_str (u : World) (b o dl dc : Nat) (s : ByteArray) (hs : s.size ≤ dl) (ht : u.there b o s.size) (ty : TypeId) :
    Sem.run Tryd.prog (Builtin.copy_ #[69, 9] ty #[.slice (some ⟨b, o, none⟩) dl dc, .string s]) u = .ok (goInt s.size) (u.setCells b o (List.map (Value.int .u8) (sd s))) := by
  have := run_copy_string (P := Tryd.prog) u 69 9 ty 5 b o dl dc s Tryd.underlying69 (fun w => by first | exact run_sizeOf_one w | rfl | kernel_rfl) hs (fun j hj => by obtain ⟨v, h1⟩ := Option.isSome_iff_exists.1 (ht j hj).1; rw [h1]; rfl) (fun j hj => (ht j hj).2)
  rw [sd_cells] at this
  exact this
end Go.Proofs.YtifcdmiopanedaaDoor
