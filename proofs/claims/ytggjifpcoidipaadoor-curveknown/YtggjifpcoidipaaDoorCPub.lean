/-
  What curve's Public does. No statement of the seat is proved here.
-/
import Derived.Test.YtggjifpcoidipaaDoorCX
import Derived.Test.YtggjifpcoidipaaDoorOSame
namespace Go.Proofs.YtggjifpcoidipaaDoor
open Go.RowKit

/-- A byte, and noughts. -/
def bz (n : Int) : List Int := n :: List.replicate 31 0
theorem bz_by (n : Int) (h0 : 0 ≤ n) (h1 : n ≤ 255) : By (bz n) := by_one n h0 h1
theorem bz_arr (n : Int) : (.agg #[.int .u8 n, .int .u8 0, .int .u8 0, .int .u8 0, .int .u8 0, .int .u8 0, .int .u8 0, .int .u8 0, .int .u8 0, .int .u8 0, .int .u8 0, .int .u8 0, .int .u8 0, .int .u8 0, .int .u8 0, .int .u8 0, .int .u8 0, .int .u8 0, .int .u8 0, .int .u8 0, .int .u8 0, .int .u8 0, .int .u8 0, .int .u8 0, .int .u8 0, .int .u8 0, .int .u8 0, .int .u8 0, .int .u8 0, .int .u8 0, .int .u8 0, .int .u8 0] : Value) = (.agg (List.map (Value.int .u8) (bz n)).toArray) := rfl
theorem leN_nought : ∀ k, leN (List.replicate k (0 : Int)) = 0
  | 0 => rfl
  | k + 1 => by rw [List.replicate_succ, leN, leN_nought k]; rfl
theorem num_bz (n : Int) (h0 : 0 ≤ n) (h1 : n ≤ 255) : num (bz n) = n := by
  unfold num bz
  rw [leN, leN_nought]
  omega
theorem rd_of {u : World} {b : Nat} {l : List Int} (h : Arr u b (List.map (Value.int .u8) l)) (hl : By l) : Rd u (some ⟨b, 0, none⟩) 32 32 l :=
  ⟨hl.len, Nat.le_refl _, (by intro e; cases e), hl.byt, fun _ => ⟨b, 0, rfl, fun i hi => by
    have h1 : i < l.length := by rw [hl.len]; exact hi
    rw [(h.rng i (.int .u8 l[i]) (by rw [List.getElem?_map, List.getElem?_eq_getElem h1]; rfl)), List.getElem?_eq_getElem h1]
    rfl⟩⟩

set_option maxHeartbeats 2000000 in
theorem public_c (l : List Int) (hl : By l) (w : World) :
    Calls Tryd.prog 19 #[(.agg (List.map (Value.int .u8) l).toArray)] w fun e w' => e = .returned (.agg (List.map (Value.int .u8) (lay 32 (xn (leN (cl l)) 9))).toArray) ∧ Below w.heap.size w w' := by
  have HNU : Hid (num (bz 9) = 9) := num_bz 9 (by decide) (by decide)
  go_enter Tryd.func19, Tryd.ntmps19
  go_upto_region 1 with fail
  have HL : Hid (Arr ((w.alloc (.cells (List.map (Value.int .u8) l).toArray 22)).alloc (.cells #[.int .u8 0, .int .u8 0, .int .u8 0, .int .u8 0, .int .u8 0, .int .u8 0, .int .u8 0, .int .u8 0, .int .u8 0, .int .u8 0, .int .u8 0, .int .u8 0, .int .u8 0, .int .u8 0, .int .u8 0, .int .u8 0, .int .u8 0, .int .u8 0, .int .u8 0, .int .u8 0, .int .u8 0, .int .u8 0, .int .u8 0, .int .u8 0, .int .u8 0, .int .u8 0, .int .u8 0, .int .u8 0, .int .u8 0, .int .u8 0, .int .u8 0, .int .u8 0] 22)) (w.heap.size) (List.map (Value.int .u8) l)) := (arr_box w l hl).later (bel1 _ _)
  have HD : Hid (((w.alloc (.cells (List.map (Value.int .u8) l).toArray 22)).alloc (.cells #[.int .u8 0, .int .u8 0, .int .u8 0, .int .u8 0, .int .u8 0, .int .u8 0, .int .u8 0, .int .u8 0, .int .u8 0, .int .u8 0, .int .u8 0, .int .u8 0, .int .u8 0, .int .u8 0, .int .u8 0, .int .u8 0, .int .u8 0, .int .u8 0, .int .u8 0, .int .u8 0, .int .u8 0, .int .u8 0, .int .u8 0, .int .u8 0, .int .u8 0, .int .u8 0, .int .u8 0, .int .u8 0, .int .u8 0, .int .u8 0, .int .u8 0, .int .u8 0] 22)).there (w.heap.size + 1) 0 32) := by have := there_new (w.alloc (.cells (List.map (Value.int .u8) l).toArray 22)) 32 #[.int .u8 0, .int .u8 0, .int .u8 0, .int .u8 0, .int .u8 0, .int .u8 0, .int .u8 0, .int .u8 0, .int .u8 0, .int .u8 0, .int .u8 0, .int .u8 0, .int .u8 0, .int .u8 0, .int .u8 0, .int .u8 0, .int .u8 0, .int .u8 0, .int .u8 0, .int .u8 0, .int .u8 0, .int .u8 0, .int .u8 0, .int .u8 0, .int .u8 0, .int .u8 0, .int .u8 0, .int .u8 0, .int .u8 0, .int .u8 0, .int .u8 0, .int .u8 0] rfl 22; simpa [Hid] using this
  have HB : Hid (Below w.heap.size w ((w.alloc (.cells (List.map (Value.int .u8) l).toArray 22)).alloc (.cells #[.int .u8 0, .int .u8 0, .int .u8 0, .int .u8 0, .int .u8 0, .int .u8 0, .int .u8 0, .int .u8 0, .int .u8 0, .int .u8 0, .int .u8 0, .int .u8 0, .int .u8 0, .int .u8 0, .int .u8 0, .int .u8 0, .int .u8 0, .int .u8 0, .int .u8 0, .int .u8 0, .int .u8 0, .int .u8 0, .int .u8 0, .int .u8 0, .int .u8 0, .int .u8 0, .int .u8 0, .int .u8 0, .int .u8 0, .int .u8 0, .int .u8 0, .int .u8 0] 22))) := bel2 _ _ _
  generalize (w.alloc (.cells (List.map (Value.int .u8) l).toArray 22)).alloc (.cells #[.int .u8 0, .int .u8 0, .int .u8 0, .int .u8 0, .int .u8 0, .int .u8 0, .int .u8 0, .int .u8 0, .int .u8 0, .int .u8 0, .int .u8 0, .int .u8 0, .int .u8 0, .int .u8 0, .int .u8 0, .int .u8 0, .int .u8 0, .int .u8 0, .int .u8 0, .int .u8 0, .int .u8 0, .int .u8 0, .int .u8 0, .int .u8 0, .int .u8 0, .int .u8 0, .int .u8 0, .int .u8 0, .int .u8 0, .int .u8 0, .int .u8 0, .int .u8 0] 22) = W0 at *
  have k1 : w.heap.size < w.heap.size + 1 := by omega
  generalize w.heap.size + 1 = b1 at *
  obtain ⟨_, _, hi⟩ := by_cells hl
  go_wp2_with (refine wpList_load_mid rfl 22 (.tmp 1) rfl (w.heap.size) 0 rfl (List.map (Value.int .u8) l) _ HL.out.rng Tryd.underlying22 rfl hi ?_)
  rw [bz_arr 9]
  refine (x_c l (bz 9) hl (bz_by 9 (by decide) (by decide)) _).mono ?_
  rintro e w1 ⟨rfl, hb⟩
  rw [HNU.out]
  replace HD : Hid (w1.there b1 0 32) := there_later hb HD.out
  replace HB : Hid (Below w.heap.size w w1) := HB.out.trans (hb.mono HB.out.size)
  clear hb hi HL HNU
  obtain ⟨hlen, hone, hi⟩ := by_cells (lay_by (xn (leN (cl l)) 9))
  generalize hcs : (List.map (Value.int .u8) (lay 32 (xn (leN (cl l)) 9))) = cs at *
  have HE : Hid ((List.map (Value.int .u8) (lay 32 (xn (leN (cl l)) 9))) = cs) := hcs
  clear hcs
  go_wp2_with (refine wpList_store_mid rfl 22 (.tmp 2) (.tmp 5) rfl b1 0 cs.toArray rfl rfl (by simpa [hlen] using HD.out) (by simpa using hi) (all_oneCell_toArray hone) ?_)
  have HR2 : Hid ((w1.setCells b1 0 cs).rangeAt b1 0 cs) := World.rangeAt_setCells_same _ _ _ _ (by rw [hlen]; exact HD.out)
  have hld := run_loadVar_mid (P := Tryd.prog) _ _ 0 22 _ _ HR2.out Tryd.underlying22 rfl hi
  exact bodyPost_ret (v := .agg cs.toArray) (by simp [results, Tryd.results19]; exact hld) rfl ⟨by rw [HE.out], below_setCells _ (by omega) _ _ _ HB.out⟩
end Go.Proofs.YtggjifpcoidipaaDoor
