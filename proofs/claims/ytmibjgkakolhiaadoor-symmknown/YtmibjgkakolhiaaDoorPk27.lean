/-
  Several texts of one's own, laid together. No statement of the seat is proved here.
-/
import Derived.Test.YtmibjgkakolhiaaDoorPk26
import Derived.Lib.ConvBytes
import Derived.Lib.LazyBuf
import Derived.Test.YtmibjgkakolhiaaDoorPk17
import Derived.Lib.SlBytesConst
/-
  Strings as bytes: '[]byte(s)' and a copy of a string's bytes. No statement of the seat is proved here.
-/
namespace Go.Proofs.YtmibjgkakolhiaaDoor
open Go.RowKit

set_option maxRecDepth 8000 in
theorem sd_byt (s : ByteArray) : Byt (sd s) := fun x hx => by
  unfold sd at hx
  obtain ⟨u, _, rfl⟩ := List.mem_map.1 hx
  have := u.toNat_lt
  constructor <;> omega
set_option maxRecDepth 8000 in
theorem sd_len (s : ByteArray) : (sd s).length = s.size := by
  unfold sd
  rw [List.length_map, Array.length_toList]
  rfl
set_option maxRecDepth 8000 in
theorem sd_str {l : List Int} (h : Byt l) : sd (strOfNums l) = l := by
  unfold sd
  rw [strOfNums_data, List.map_map]
  conv => rhs; rw [← List.map_id l]
  apply List.map_congr_left
  intro x hx
  obtain ⟨h0, h1⟩ := h x hx
  show ((UInt8.ofNat x.toNat).toNat : Int) = x
  have : x.toNat < 256 := by omega
  have e : (UInt8.ofNat x.toNat).toNat = x.toNat := by rw [UInt8.toNat_ofNat']; exact Nat.mod_eq_of_lt this
  rw [e]
  omega
set_option maxRecDepth 8000 in
theorem sd_cells (s : ByteArray) : (s.data.toList.map fun x => Value.int .u8 (x.toNat : Int)) = List.map (Value.int .u8) (sd s) := by
  unfold sd
  rw [List.map_map]
  rfl
set_option maxRecDepth 8000 in
/-- '[]byte(s)'. -/
theorem conv_str (s : ByteArray) (w : World) : ∃ c V, (convert 9 35 (.string s)).run Tryd.prog w = .ok (.slice (some ⟨w.heap.size, 0, none⟩) s.size c) V ∧ Rd V (some ⟨w.heap.size, 0, none⟩) s.size c (sd s) ∧ Below w.heap.size w V := by
  refine ⟨_, _, Lib.run_convert_string_bytes (P := Tryd.prog) w 9 35 5 s Tryd.underlying9 Tryd.underlying35 Tryd.underlying5, ⟨sd_len s, ?_, (fun e => by cases e), sd_byt s, fun _ => ⟨w.heap.size, 0, rfl, fun j hj => ?_⟩⟩, ?_⟩
  · exact grownCap_ge _ _ _ _
  · rw [Nat.zero_add, Lib.bytesWorld_cell w 5 s j hj]
    have hj2 : j < s.data.toList.length := by rw [Array.length_toList]; exact hj
    have e : (sd s)[j]? = some ((s.data.toList[j]'hj2).toNat : Int) := by
      unfold sd
      rw [List.getElem?_map, List.getElem?_eq_getElem hj2]
      rfl
    rw [e, List.getD_eq_getElem?_getD, List.getElem?_eq_getElem hj2]
    rfl
  · unfold Lib.bytesWorld
    exact ext_frz ((Ext.refl w).drew.trans (bel1 w.drew _)) _ _ (Nat.le_refl _)
set_option maxRecDepth 8000 in
/-- 'copy' of a string's bytes, all of which have room. -/
theorem copy_str (u : World) (b o dl dc : Nat) (s : ByteArray) (hs : s.size ≤ dl) (ht : u.there b o s.size) (ty : TypeId) :
    Sem.run Tryd.prog (Builtin.copy_ #[35, 9] ty #[.slice (some ⟨b, o, none⟩) dl dc, .string s]) u = .ok (goInt s.size) (u.setCells b o (List.map (Value.int .u8) (sd s))) := by
  have := run_copy_string (P := Tryd.prog) u 35 9 ty 5 b o dl dc s Tryd.underlying35 (fun w => by first | exact run_sizeOf_one w | rfl | kernel_rfl) hs (fun j hj => by obtain ⟨v, h1⟩ := Option.isSome_iff_exists.1 (ht j hj).1; rw [h1]; rfl) (fun j hj => (ht j hj).2)
  rw [sd_cells] at this
  exact this
end Go.Proofs.YtmibjgkakolhiaaDoor
/-
  Constant texts and arrays of bytes that are compared. No statement of the seat is proved here.
-/
namespace Go.Proofs.YtmibjgkakolhiaaDoor
open Go.RowKit

set_option maxRecDepth 8000 in
theorem byt5 (l : List Int) (h : l.all (fun x => decide (0 ≤ x) && decide (x ≤ 255)) = true) : Byt l := by
  intro x hx
  have := List.all_eq_true.1 h x hx
  simp only [Bool.and_eq_true, decide_eq_true_eq] at this
  exact this
set_option maxRecDepth 8000 in
theorem rd_mark (w : World) (l : List Int) (hb : Byt l) (t : TypeId) (fz : Nat × Nat) (cap : Nat) (hc : l.length ≤ cap) (cs : Array Value) (hcs : ∀ i, i < l.length → cs[i]? = some (.int .u8 (l[i]?.getD 0))) : Rd (w.alloc (.cells cs t fz)) (some ⟨w.heap.size, 0, none⟩) l.length cap l :=
  ⟨rfl, hc, (fun h => by cases h), hb, fun _ => ⟨w.heap.size, 0, rfl, fun i hi => by
    rw [Nat.zero_add, cell_of_row _ _ _ _ _ _ (heap_alloc_new w _)]
    exact hcs i hi⟩⟩
set_option maxRecDepth 8000 in
theorem map_cells (l : List Int) : ∀ i, i < l.length → (List.map (Value.int .u8) l).toArray[i]? = some (.int .u8 (l[i]?.getD 0)) := fun i hi => by simp [List.getElem?_eq_getElem hi]
set_option maxRecDepth 8000 in
theorem pbytes_of : ∀ (l : List Int), Byt l → ∃ xs : List UInt8, xs.length = l.length ∧ l.map (Value.int .u8) = xs.map Extern.Stop.cell
  | [], _ => ⟨[], rfl, rfl⟩
  | x :: l, h => by
    obtain ⟨xs, h1, h2⟩ := pbytes_of l (fun y hy => h y (by simp [hy]))
    have hx := h x (by simp)
    have e : ((UInt8.ofNat x.toNat).toNat : Int) = x := by
      rw [UInt8.toNat_ofNat']
      omega
    refine ⟨UInt8.ofNat x.toNat :: xs, by simp [h1], ?_⟩
    rw [List.map_cons, List.map_cons, h2, Extern.Stop.cell]
    congr 2
    exact e.symm
set_option maxRecDepth 8000 in
theorem eql32 (a b : List Int) (ha : Bn 32 a) (hab : a = b) (w : World) : Sem.run Tryd.prog (binOp .eql 27 (.agg (List.map (Value.int .u8) a).toArray) (.agg (List.map (Value.int .u8) b).toArray)) w = .ok (.bool true) w := by
  subst hab
  obtain ⟨xs, x1, x2⟩ := pbytes_of a ha.byt
  rw [x2, run_eql_bytes (P := Tryd.prog) w 27 5 32 Tryd.underlying27 Tryd.underlying5 (fun _ => by kernel_rfl) xs xs (x1.trans ha.len) (x1.trans ha.len)]
  simp
set_option maxRecDepth 8000 in
theorem neq32 (a b : List Int) (ha : Bn 32 a) (hab : a = b) (w : World) : Sem.run Tryd.prog (binOp .neq 27 (.agg (List.map (Value.int .u8) a).toArray) (.agg (List.map (Value.int .u8) b).toArray)) w = .ok (.bool false) w := by
  subst hab
  obtain ⟨xs, x1, x2⟩ := pbytes_of a ha.byt
  rw [x2, run_neq_struct, run_equalIn_bytes w 9998 27 5 32 Tryd.underlying27 Tryd.underlying5 (fun _ => by kernel_rfl) xs xs (x1.trans ha.len) (x1.trans ha.len)]
  simp [Result.andThen]
end Go.Proofs.YtmibjgkakolhiaaDoor
