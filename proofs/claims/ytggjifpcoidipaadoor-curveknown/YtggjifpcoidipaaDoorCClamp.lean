/-
  What curve's Clamp does. No statement of the seat is proved here.
-/
import Derived.Test.YtggjifpcoidipaaDoorCBit
namespace Go.Proofs.YtggjifpcoidipaaDoor
open Go.RowKit

theorem an7 : ∀ t : Fin 256, bits .andNot .u8 ((t.val : Nat) : Int) 7 = ((t.val - t.val % 8 : Nat) : Int) := by decide +kernel
theorem an128 : ∀ t : Fin 256, bits .or .u8 (bits .andNot .u8 ((t.val : Nat) : Int) 128) 64 = ((t.val % 64 + 64 : Nat) : Int) := by decide +kernel
theorem an128' : ∀ t : Fin 256, 0 ≤ bits .andNot .u8 ((t.val : Nat) : Int) 128 ∧ bits .andNot .u8 ((t.val : Nat) : Int) 128 ≤ 255 := by decide +kernel
/-- A scalar's bytes, clamped. -/
def cl (l : List Int) : List Int := (l.set 0 (l[0]! - l[0]! % 8)).set 31 (l[31]! % 64 + 64)
theorem cl_by {l : List Int} (h : By l) : By (cl l) := by
  have e0 : l[0]! = l[0]'(by rw [h.len]; decide) := getElem!_pos l 0 (by rw [h.len]; decide)
  have e1 : l[31]! = l[31]'(by rw [h.len]; decide) := getElem!_pos l 31 (by rw [h.len]; decide)
  have h0 := h.byt _ (List.getElem_mem (l := l) (n := 0) (by rw [h.len]; decide))
  have h1 := h.byt _ (List.getElem_mem (l := l) (n := 31) (by rw [h.len]; decide))
  refine ⟨by simp [cl, h.len], fun x hx => ?_⟩
  unfold cl at hx
  rcases List.mem_or_eq_of_mem_set hx with hx | rfl
  · rcases List.mem_or_eq_of_mem_set hx with hx | rfl
    · exact h.byt x hx
    · rw [e0]; omega
  · omega
theorem set_map (l : List Int) (k : Nat) (x : Int) : (List.map (Value.int .u8) l).set k (.int .u8 x) = List.map (Value.int .u8) (l.set k x) := by rw [List.map_set]
theorem arr_set {u : World} {b : Nat} {l : List Int} (h : Arr u b (List.map (Value.int .u8) l)) (k : Nat) (hk : k < l.length) (x : Int) : Arr (u.setCell ⟨b, k, none⟩ (.int .u8 x)) b (List.map (Value.int .u8) (l.set k x)) := by
  refine ⟨fun j v hv => ?_, there_set h.all _ _ _⟩
  rw [Nat.zero_add]
  rw [← set_map] at hv
  have hjl : j < ((List.map (Value.int .u8) l).set k (.int .u8 x)).length := (List.getElem?_eq_some_iff.1 hv).1
  rw [List.length_set, List.length_map] at hjl
  by_cases hj : j = k
  · subst hj
    rw [List.getElem?_set_self (by simpa using hk)] at hv
    have hc := h.rng j (.int .u8 l[j]) (by rw [List.getElem?_map, List.getElem?_eq_getElem hjl]; rfl)
    rw [Nat.zero_add] at hc
    have := World.cell?_setCell_same (w := u) (a := ⟨b, j, none⟩) (v := .int .u8 x) hc
    rw [← hv]
    exact this
  · rw [List.getElem?_set_ne (fun e => hj e.symm)] at hv
    have hc := h.rng j v hv
    rw [Nat.zero_add] at hc
    simp [go_sem, hc]
theorem arr_cell {u : World} {b : Nat} {l : List Int} (h : Arr u b (List.map (Value.int .u8) l)) (k : Nat) (hk : k < l.length) (h32 : k < 32) : u.cell? ⟨b, k, none⟩ = some (.int .u8 l[k]) ∧ u.frozen? ⟨b, k, none⟩ = false := by
  have hc := h.rng k (.int .u8 l[k]) (by rw [List.getElem?_map, List.getElem?_eq_getElem hk]; rfl)
  rw [Nat.zero_add] at hc
  obtain ⟨v, _, hf⟩ := there_cell h.all k h32
  exact ⟨hc, hf⟩

set_option maxHeartbeats 2000000 in
theorem clamp_c (l : List Int) (hl : By l) (w : World) :
    Calls Tryd.prog 24 #[(.agg (List.map (Value.int .u8) l).toArray)] w fun e w' => e = .returned (.agg (List.map (Value.int .u8) (cl l)).toArray) ∧ Below w.heap.size w w' := by
  have n0 : 0 < l.length := by rw [hl.len]; decide
  have n1 : 31 < l.length := by rw [hl.len]; decide
  have HC : Hid (cl l = ((l.set 0 (l[0] - l[0] % 8)).set 31 (l[31] % 64 + 64))) := by unfold Hid cl; rw [getElem!_pos l 0 n0, getElem!_pos l 31 n1]
  have HY : Hid (By (cl l)) := cl_by hl
  have r0 := hl.byt _ (List.getElem_mem n0)
  have r1 := hl.byt _ (List.getElem_mem n1)
  go_enter Tryd.func24, Tryd.ntmps24
  go_upto_region 1 with fail
  have HL : Hid (Arr ((w.alloc (.cells (List.map (Value.int .u8) l).toArray 22)).alloc (.cells #[.int .u8 0, .int .u8 0, .int .u8 0, .int .u8 0, .int .u8 0, .int .u8 0, .int .u8 0, .int .u8 0, .int .u8 0, .int .u8 0, .int .u8 0, .int .u8 0, .int .u8 0, .int .u8 0, .int .u8 0, .int .u8 0, .int .u8 0, .int .u8 0, .int .u8 0, .int .u8 0, .int .u8 0, .int .u8 0, .int .u8 0, .int .u8 0, .int .u8 0, .int .u8 0, .int .u8 0, .int .u8 0, .int .u8 0, .int .u8 0, .int .u8 0, .int .u8 0] 22)) (w.heap.size) (List.map (Value.int .u8) l)) := (arr_box w l hl).later (bel1 _ _)
  have HD : Hid (((w.alloc (.cells (List.map (Value.int .u8) l).toArray 22)).alloc (.cells #[.int .u8 0, .int .u8 0, .int .u8 0, .int .u8 0, .int .u8 0, .int .u8 0, .int .u8 0, .int .u8 0, .int .u8 0, .int .u8 0, .int .u8 0, .int .u8 0, .int .u8 0, .int .u8 0, .int .u8 0, .int .u8 0, .int .u8 0, .int .u8 0, .int .u8 0, .int .u8 0, .int .u8 0, .int .u8 0, .int .u8 0, .int .u8 0, .int .u8 0, .int .u8 0, .int .u8 0, .int .u8 0, .int .u8 0, .int .u8 0, .int .u8 0, .int .u8 0] 22)).there (w.heap.size + 1) 0 32) := by have := there_new (w.alloc (.cells (List.map (Value.int .u8) l).toArray 22)) 32 #[.int .u8 0, .int .u8 0, .int .u8 0, .int .u8 0, .int .u8 0, .int .u8 0, .int .u8 0, .int .u8 0, .int .u8 0, .int .u8 0, .int .u8 0, .int .u8 0, .int .u8 0, .int .u8 0, .int .u8 0, .int .u8 0, .int .u8 0, .int .u8 0, .int .u8 0, .int .u8 0, .int .u8 0, .int .u8 0, .int .u8 0, .int .u8 0, .int .u8 0, .int .u8 0, .int .u8 0, .int .u8 0, .int .u8 0, .int .u8 0, .int .u8 0, .int .u8 0] rfl 22; simpa [Hid] using this
  have HB : Hid (Below w.heap.size w ((w.alloc (.cells (List.map (Value.int .u8) l).toArray 22)).alloc (.cells #[.int .u8 0, .int .u8 0, .int .u8 0, .int .u8 0, .int .u8 0, .int .u8 0, .int .u8 0, .int .u8 0, .int .u8 0, .int .u8 0, .int .u8 0, .int .u8 0, .int .u8 0, .int .u8 0, .int .u8 0, .int .u8 0, .int .u8 0, .int .u8 0, .int .u8 0, .int .u8 0, .int .u8 0, .int .u8 0, .int .u8 0, .int .u8 0, .int .u8 0, .int .u8 0, .int .u8 0, .int .u8 0, .int .u8 0, .int .u8 0, .int .u8 0, .int .u8 0] 22))) := bel2 _ _ _
  generalize (w.alloc (.cells (List.map (Value.int .u8) l).toArray 22)).alloc (.cells #[.int .u8 0, .int .u8 0, .int .u8 0, .int .u8 0, .int .u8 0, .int .u8 0, .int .u8 0, .int .u8 0, .int .u8 0, .int .u8 0, .int .u8 0, .int .u8 0, .int .u8 0, .int .u8 0, .int .u8 0, .int .u8 0, .int .u8 0, .int .u8 0, .int .u8 0, .int .u8 0, .int .u8 0, .int .u8 0, .int .u8 0, .int .u8 0, .int .u8 0, .int .u8 0, .int .u8 0, .int .u8 0, .int .u8 0, .int .u8 0, .int .u8 0, .int .u8 0] 22) = W0 at *
  have k1 : w.heap.size < w.heap.size + 1 := by omega
  generalize w.heap.size + 1 = b1 at *
  obtain ⟨c0, f0⟩ := arr_cell HL.out 0 n0 (by decide)
  have e0 : bits .andNot .u8 l[0] 7 = l[0] - l[0] % 8 := by
    obtain ⟨x0, x1⟩ := r0
    generalize l[0] = r at *
    obtain ⟨m, rfl⟩ := Int.eq_ofNat_of_zero_le x0
    have := an7 ⟨m, by omega⟩
    simp only at this
    rw [this]
    omega
  generalize hr0 : l[0] = q0 at *
  go_upto_region 2 with fail
  have HL2 : Hid (Arr (W0.setCell ⟨w.heap.size, 0, none⟩ (.int .u8 (q0 - q0 % 8))) (w.heap.size) (List.map (Value.int .u8) (l.set 0 (q0 - q0 % 8)))) := arr_set HL.out 0 n0 _
  have HD2 : Hid ((W0.setCell ⟨w.heap.size, 0, none⟩ (.int .u8 (q0 - q0 % 8))).there b1 0 32) := there_set HD.out _ _ _
  have HB2 : Hid (Below w.heap.size w (W0.setCell ⟨w.heap.size, 0, none⟩ (.int .u8 (q0 - q0 % 8)))) := HB.out.setCell (p := ⟨w.heap.size, 0, none⟩) (Nat.le_refl _) _
  clear HL HD HB c0 f0 e0
  generalize W0.setCell ⟨w.heap.size, 0, none⟩ (.int .u8 (q0 - q0 % 8)) = W1 at *
  have n31 : 31 < (l.set 0 (q0 - q0 % 8)).length := by rw [List.length_set]; exact n1
  obtain ⟨c0, f0⟩ := arr_cell HL2.out 31 n31 (by decide)
  rw [List.getElem_set_ne (by decide)] at c0
  obtain ⟨e1, e2⟩ : (0 ≤ bits .andNot .u8 l[31] 128 ∧ bits .andNot .u8 l[31] 128 ≤ 255) ∧ bits .or .u8 (bits .andNot .u8 l[31] 128) 64 = l[31] % 64 + 64 := by
    obtain ⟨x0, x1⟩ := r1
    generalize l[31] = r at *
    obtain ⟨m, rfl⟩ := Int.eq_ofNat_of_zero_le x0
    refine ⟨an128' ⟨m, by omega⟩, ?_⟩
    have := an128 ⟨m, by omega⟩
    simp only at this
    rw [this]
    omega
  generalize hr1 : l[31] = q1 at *
  generalize hq2 : bits .andNot .u8 q1 128 = q2 at *
  go_upto_region 3 with fail
  have HL3 : Hid (Arr (W1.setCell ⟨w.heap.size, 31, none⟩ (.int .u8 q2)) (w.heap.size) (List.map (Value.int .u8) ((l.set 0 (q0 - q0 % 8)).set 31 q2))) := arr_set HL2.out 31 n31 _
  have HD3 : Hid ((W1.setCell ⟨w.heap.size, 31, none⟩ (.int .u8 q2)).there b1 0 32) := there_set HD2.out _ _ _
  have HB3 : Hid (Below w.heap.size w (W1.setCell ⟨w.heap.size, 31, none⟩ (.int .u8 q2))) := HB2.out.setCell (p := ⟨w.heap.size, 31, none⟩) (Nat.le_refl _) _
  clear HL2 HD2 HB2 c0 f0 hq2
  generalize W1.setCell ⟨w.heap.size, 31, none⟩ (.int .u8 q2) = W2 at *
  have n31' : 31 < ((l.set 0 (q0 - q0 % 8)).set 31 q2).length := by rw [List.length_set]; exact n31
  obtain ⟨c0, f0⟩ := arr_cell HL3.out 31 n31' (by decide)
  rw [List.getElem_set_self] at c0
  go_upto_region 4 with fail
  have HL4 : Hid (Arr (W2.setCell ⟨w.heap.size, 31, none⟩ (.int .u8 (q1 % 64 + 64))) (w.heap.size) (List.map (Value.int .u8) (cl l))) := by
    have := arr_set HL3.out 31 n31' (q1 % 64 + 64)
    rw [List.set_set] at this
    unfold Hid
    rw [HC.out]
    exact this
  have HD4 : Hid ((W2.setCell ⟨w.heap.size, 31, none⟩ (.int .u8 (q1 % 64 + 64))).there b1 0 32) := there_set HD3.out _ _ _
  have HB4 : Hid (Below w.heap.size w (W2.setCell ⟨w.heap.size, 31, none⟩ (.int .u8 (q1 % 64 + 64)))) := HB3.out.setCell (p := ⟨w.heap.size, 31, none⟩) (Nat.le_refl _) _
  clear HL3 HD3 HB3 c0 f0 n31 n31' HC hr0 hr1
  generalize W2.setCell ⟨w.heap.size, 31, none⟩ (.int .u8 (q1 % 64 + 64)) = W3 at *
  obtain ⟨hlen, hone, hi⟩ := by_cells HY.out
  generalize hcs : (List.map (Value.int .u8) (cl l)) = cs at *
  have HE : Hid ((List.map (Value.int .u8) (cl l)) = cs) := hcs
  clear hcs
  go_wp2_with (first
    | (refine wpList_load_mid rfl 22 (.tmp 1) rfl (w.heap.size) 0 rfl cs _ HL4.out.rng Tryd.underlying22 rfl hi ?_)
    | (refine wpList_store_mid rfl 22 (.tmp 2) (.tmp 15) rfl b1 0 cs.toArray rfl rfl (by simpa [hlen] using HD4.out) (by simpa using hi) (all_oneCell_toArray hone) ?_))
  have HR2 : Hid ((W3.setCells b1 0 cs).rangeAt b1 0 cs) := World.rangeAt_setCells_same _ _ _ _ (by rw [hlen]; exact HD4.out)
  have hld := run_loadVar_mid (P := Tryd.prog) _ _ 0 22 _ _ HR2.out Tryd.underlying22 rfl hi
  exact bodyPost_ret (v := .agg cs.toArray) (by simp [results, Tryd.results24]; exact hld) rfl ⟨by rw [HE.out], below_setCells _ (by omega) _ _ _ HB4.out⟩
end Go.Proofs.YtggjifpcoidipaaDoor
