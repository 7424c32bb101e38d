/-
  What the reference's Clamp does. No statement of the seat is proved here.
-/
import Derived.Test.YtggjifpcoidipaaDoorCClamp
namespace Go.Proofs.YtggjifpcoidipaaDoor
open Go.RowKit

set_option maxHeartbeats 2000000 in
theorem rclamp_c (l : List Int) (hl : By l) (w : World) :
    Calls Tryd.prog 25 #[(.agg (List.map (Value.int .u8) l).toArray)] w fun e w' => e = .returned (.agg (List.map (Value.int .u8) (cl l)).toArray) ∧ Below w.heap.size w w' := by
  have n0 : 0 < l.length := by rw [hl.len]; decide
  have n1 : 31 < l.length := by rw [hl.len]; decide
  have HC : Hid (cl l = ((l.set 0 (l[0] / 8 * 8)).set 31 (l[31] % 64 + 64))) := by
    unfold Hid cl
    rw [getElem!_pos l 0 n0, getElem!_pos l 31 n1, show (l[0] : Int) - (l[0] : Int) % (8 : Int) = (l[0] : Int) / (8 : Int) * (8 : Int) by omega]
  have HY : Hid (By (cl l)) := cl_by hl
  have r0 := hl.byt _ (List.getElem_mem n0)
  have r1 := hl.byt _ (List.getElem_mem n1)
  go_enter Tryd.func25, Tryd.ntmps25
  go_upto_region 1 with fail
  have HL : Hid (Arr ((w.alloc (.cells (List.map (Value.int .u8) l).toArray 22)).alloc (.cells #[.int .u8 0, .int .u8 0, .int .u8 0, .int .u8 0, .int .u8 0, .int .u8 0, .int .u8 0, .int .u8 0, .int .u8 0, .int .u8 0, .int .u8 0, .int .u8 0, .int .u8 0, .int .u8 0, .int .u8 0, .int .u8 0, .int .u8 0, .int .u8 0, .int .u8 0, .int .u8 0, .int .u8 0, .int .u8 0, .int .u8 0, .int .u8 0, .int .u8 0, .int .u8 0, .int .u8 0, .int .u8 0, .int .u8 0, .int .u8 0, .int .u8 0, .int .u8 0] 22)) (w.heap.size) (List.map (Value.int .u8) l)) := (arr_box w l hl).later (bel1 _ _)
  have HD : Hid (((w.alloc (.cells (List.map (Value.int .u8) l).toArray 22)).alloc (.cells #[.int .u8 0, .int .u8 0, .int .u8 0, .int .u8 0, .int .u8 0, .int .u8 0, .int .u8 0, .int .u8 0, .int .u8 0, .int .u8 0, .int .u8 0, .int .u8 0, .int .u8 0, .int .u8 0, .int .u8 0, .int .u8 0, .int .u8 0, .int .u8 0, .int .u8 0, .int .u8 0, .int .u8 0, .int .u8 0, .int .u8 0, .int .u8 0, .int .u8 0, .int .u8 0, .int .u8 0, .int .u8 0, .int .u8 0, .int .u8 0, .int .u8 0, .int .u8 0] 22)).there (w.heap.size + 1) 0 32) := by have := there_new (w.alloc (.cells (List.map (Value.int .u8) l).toArray 22)) 32 #[.int .u8 0, .int .u8 0, .int .u8 0, .int .u8 0, .int .u8 0, .int .u8 0, .int .u8 0, .int .u8 0, .int .u8 0, .int .u8 0, .int .u8 0, .int .u8 0, .int .u8 0, .int .u8 0, .int .u8 0, .int .u8 0, .int .u8 0, .int .u8 0, .int .u8 0, .int .u8 0, .int .u8 0, .int .u8 0, .int .u8 0, .int .u8 0, .int .u8 0, .int .u8 0, .int .u8 0, .int .u8 0, .int .u8 0, .int .u8 0, .int .u8 0, .int .u8 0] rfl 22; simpa [Hid] using this
  have HB : Hid (Below w.heap.size w ((w.alloc (.cells (List.map (Value.int .u8) l).toArray 22)).alloc (.cells #[.int .u8 0, .int .u8 0, .int .u8 0, .int .u8 0, .int .u8 0, .int .u8 0, .int .u8 0, .int .u8 0, .int .u8 0, .int .u8 0, .int .u8 0, .int .u8 0, .int .u8 0, .int .u8 0, .int .u8 0, .int .u8 0, .int .u8 0, .int .u8 0, .int .u8 0, .int .u8 0, .int .u8 0, .int .u8 0, .int .u8 0, .int .u8 0, .int .u8 0, .int .u8 0, .int .u8 0, .int .u8 0, .int .u8 0, .int .u8 0, .int .u8 0, .int .u8 0] 22))) := bel2 _ _ _
  generalize (w.alloc (.cells (List.map (Value.int .u8) l).toArray 22)).alloc (.cells #[.int .u8 0, .int .u8 0, .int .u8 0, .int .u8 0, .int .u8 0, .int .u8 0, .int .u8 0, .int .u8 0, .int .u8 0, .int .u8 0, .int .u8 0, .int .u8 0, .int .u8 0, .int .u8 0, .int .u8 0, .int .u8 0, .int .u8 0, .int .u8 0, .int .u8 0, .int .u8 0, .int .u8 0, .int .u8 0, .int .u8 0, .int .u8 0, .int .u8 0, .int .u8 0, .int .u8 0, .int .u8 0, .int .u8 0, .int .u8 0, .int .u8 0, .int .u8 0] 22) = W0 at *
  have k1 : w.heap.size < w.heap.size + 1 := by omega
  generalize w.heap.size + 1 = b1 at *
  obtain ⟨c0, f0⟩ := arr_cell HL.out 0 n0 (by decide)
  generalize hr0 : l[0] = q0 at *
  go_upto_region 2 with fail
  have HL2 : Hid (Arr (W0.setCell ⟨w.heap.size, 0, none⟩ (.int .u8 (q0 / 8 * 8))) (w.heap.size) (List.map (Value.int .u8) (l.set 0 (q0 / 8 * 8)))) := arr_set HL.out 0 n0 _
  have HD2 : Hid ((W0.setCell ⟨w.heap.size, 0, none⟩ (.int .u8 (q0 / 8 * 8))).there b1 0 32) := there_set HD.out _ _ _
  have HB2 : Hid (Below w.heap.size w (W0.setCell ⟨w.heap.size, 0, none⟩ (.int .u8 (q0 / 8 * 8)))) := HB.out.setCell (p := ⟨w.heap.size, 0, none⟩) (Nat.le_refl _) _
  clear HL HD HB c0 f0
  generalize W0.setCell ⟨w.heap.size, 0, none⟩ (.int .u8 (q0 / 8 * 8)) = W1 at *
  have n31 : 31 < (l.set 0 (q0 / 8 * 8)).length := by rw [List.length_set]; exact n1
  obtain ⟨c0, f0⟩ := arr_cell HL2.out 31 n31 (by decide)
  rw [List.getElem_set_ne (by decide)] at c0
  obtain ⟨x0, x1⟩ := r1
  generalize hr1 : l[31] = q1 at *
  have e2 : 0 ≤ q1 % 64 := by omega
  go_upto_region 3 with fail
  have HL3 := HL2
  have HD3 := HD2
  have HB3 := HB2
  clear HL2 HD2 HB2
  have n31' := n31
  have HL4 : Hid (Arr (W1.setCell ⟨w.heap.size, 31, none⟩ (.int .u8 (q1 % 64 + 64))) (w.heap.size) (List.map (Value.int .u8) (cl l))) := by
    have := arr_set HL3.out 31 n31' (q1 % 64 + 64)
    unfold Hid
    rw [HC.out]
    exact this
  have HD4 : Hid ((W1.setCell ⟨w.heap.size, 31, none⟩ (.int .u8 (q1 % 64 + 64))).there b1 0 32) := there_set HD3.out _ _ _
  have HB4 : Hid (Below w.heap.size w (W1.setCell ⟨w.heap.size, 31, none⟩ (.int .u8 (q1 % 64 + 64)))) := HB3.out.setCell (p := ⟨w.heap.size, 31, none⟩) (Nat.le_refl _) _
  clear HL3 HD3 HB3 c0 f0 n31 n31' HC hr0 hr1
  generalize W1.setCell ⟨w.heap.size, 31, none⟩ (.int .u8 (q1 % 64 + 64)) = W3 at *
  obtain ⟨hlen, hone, hi⟩ := by_cells HY.out
  generalize hcs : (List.map (Value.int .u8) (cl l)) = cs at *
  have HE : Hid ((List.map (Value.int .u8) (cl l)) = cs) := hcs
  clear hcs
  go_wp2_with (first
    | (refine wpList_load_mid rfl 22 (.tmp 1) rfl (w.heap.size) 0 rfl cs _ HL4.out.rng Tryd.underlying22 rfl hi ?_)
    | (refine wpList_store_mid rfl 22 (.tmp 2) (.tmp 13) rfl b1 0 cs.toArray rfl rfl (by simpa [hlen] using HD4.out) (by simpa using hi) (all_oneCell_toArray hone) ?_))
  have HR2 : Hid ((W3.setCells b1 0 cs).rangeAt b1 0 cs) := World.rangeAt_setCells_same _ _ _ _ (by rw [hlen]; exact HD4.out)
  have hld := run_loadVar_mid (P := Tryd.prog) _ _ 0 22 _ _ HR2.out Tryd.underlying22 rfl hi
  exact bodyPost_ret (v := .agg cs.toArray) (by simp [results, Tryd.results25]; exact hld) rfl ⟨by rw [HE.out], below_setCells _ (by omega) _ _ _ HB4.out⟩
end Go.Proofs.YtggjifpcoidipaaDoor
