/-
  What the law's own 'known' does: chapter 3's examples hold. No statement of the seat is proved here.
-/
import Derived.Test.YtggjifpcoidipaaDoorCLaw
namespace Go.Proofs.YtggjifpcoidipaaDoor
open Go.RowKit

theorem e248 : cl (bz 255) = (248 :: (List.replicate 30 0 ++ [64])) := by decide +kernel

set_option maxHeartbeats 4000000 in
theorem known3_any (w : World) : Calls Tryd.prog 18 #[] w fun e w' => e = .returned (.bool true) ∧ Below w.heap.size w w' := by
  go_enter Tryd.func18, Tryd.ntmps18
  go_upto_region 1 with fail
  have HB : Hid (Below w.heap.size w w) := Below.refl _ _
  go_wp2_with fail
  refine (secret_c 5 _).mono ?_
  rintro e u1_0 ⟨rfl, hb1_0⟩
  have hsec4 := sec_by 5
  generalize sec 5 = S4 at *
  have hc1_1 : Hid (Below w.heap.size w u1_0) := hb1_0
  clear hb1_0
  have hby1 := hsec4
  generalize hcs : (List.map (Value.int .u8) S4) = cs1 at *
  have HC1 : Hid ((List.map (Value.int .u8) S4) = cs1) := hcs
  clear hcs
  obtain ⟨hlen1, hone1, hi1⟩ := by_cells' hby1 HC1
  have hth := there_new u1_0 32 #[.int .u8 0, .int .u8 0, .int .u8 0, .int .u8 0, .int .u8 0, .int .u8 0, .int .u8 0, .int .u8 0, .int .u8 0, .int .u8 0, .int .u8 0, .int .u8 0, .int .u8 0, .int .u8 0, .int .u8 0, .int .u8 0, .int .u8 0, .int .u8 0, .int .u8 0, .int .u8 0, .int .u8 0, .int .u8 0, .int .u8 0, .int .u8 0, .int .u8 0, .int .u8 0, .int .u8 0, .int .u8 0, .int .u8 0, .int .u8 0, .int .u8 0, .int .u8 0] rfl 22
  have A1 := arr_new u1_0 #[.int .u8 0, .int .u8 0, .int .u8 0, .int .u8 0, .int .u8 0, .int .u8 0, .int .u8 0, .int .u8 0, .int .u8 0, .int .u8 0, .int .u8 0, .int .u8 0, .int .u8 0, .int .u8 0, .int .u8 0, .int .u8 0, .int .u8 0, .int .u8 0, .int .u8 0, .int .u8 0, .int .u8 0, .int .u8 0, .int .u8 0, .int .u8 0, .int .u8 0, .int .u8 0, .int .u8 0, .int .u8 0, .int .u8 0, .int .u8 0, .int .u8 0, .int .u8 0] rfl cs1 hlen1
  have N1 := bel_new u1_0 #[.int .u8 0, .int .u8 0, .int .u8 0, .int .u8 0, .int .u8 0, .int .u8 0, .int .u8 0, .int .u8 0, .int .u8 0, .int .u8 0, .int .u8 0, .int .u8 0, .int .u8 0, .int .u8 0, .int .u8 0, .int .u8 0, .int .u8 0, .int .u8 0, .int .u8 0, .int .u8 0, .int .u8 0, .int .u8 0, .int .u8 0, .int .u8 0, .int .u8 0, .int .u8 0, .int .u8 0, .int .u8 0, .int .u8 0, .int .u8 0, .int .u8 0, .int .u8 0] cs1
  have hX : Hid (Below w.heap.size w ((u1_0.alloc (.cells #[.int .u8 0, .int .u8 0, .int .u8 0, .int .u8 0, .int .u8 0, .int .u8 0, .int .u8 0, .int .u8 0, .int .u8 0, .int .u8 0, .int .u8 0, .int .u8 0, .int .u8 0, .int .u8 0, .int .u8 0, .int .u8 0, .int .u8 0, .int .u8 0, .int .u8 0, .int .u8 0, .int .u8 0, .int .u8 0, .int .u8 0, .int .u8 0, .int .u8 0, .int .u8 0, .int .u8 0, .int .u8 0, .int .u8 0, .int .u8 0, .int .u8 0, .int .u8 0] 22)).setCells u1_0.heap.size 0 cs1)) := hc1_1.out.trans (N1.mono hc1_1.out.size)
  have hge1 : w.heap.size ≤ u1_0.heap.size := Nat.le_trans HB.out.size hc1_1.out.size
  go_upto_region 2 with (refine wpList_store_mid rfl 22 (.tmp 1) (.tmp 4) rfl (u1_0.heap.size) 0 cs1.toArray rfl rfl (by simpa [hlen1] using hth) (by simpa using hi1) (all_oneCell_toArray hone1) ?_)
  clear hth
  generalize (u1_0.alloc (.cells #[.int .u8 0, .int .u8 0, .int .u8 0, .int .u8 0, .int .u8 0, .int .u8 0, .int .u8 0, .int .u8 0, .int .u8 0, .int .u8 0, .int .u8 0, .int .u8 0, .int .u8 0, .int .u8 0, .int .u8 0, .int .u8 0, .int .u8 0, .int .u8 0, .int .u8 0, .int .u8 0, .int .u8 0, .int .u8 0, .int .u8 0, .int .u8 0, .int .u8 0, .int .u8 0, .int .u8 0, .int .u8 0, .int .u8 0, .int .u8 0, .int .u8 0, .int .u8 0] 22)).setCells u1_0.heap.size 0 cs1 = W1 at *
  generalize u1_0.heap.size = b1 at *
  replace HB : Hid (Below w.heap.size w W1) := HB.out.trans (Below.mono hX.out HB.out.size)
  clear hX hc1_1 N1
  have HC := HC1.out
  subst HC
  have A1' : Hid (Arr W1 b1 (List.map (Value.int .u8) S4)) := A1
  clear A1 HC1 hlen1 hone1 hi1
  have A1 := A1'
  clear A1'
  go_wp2_with (refine wpList_load_mid rfl 22 (.tmp 1) rfl b1 0 rfl (List.map (Value.int .u8) S4) _ A1.out.rng Tryd.underlying22 rfl (by_cells hby1).2.2 ?_)
  rw [bz_arr 1]
  refine (shared_one_c S4 hsec4 _).mono ?_
  rintro e w2 ⟨rfl, hb⟩
  replace A1 : Hid (Arr w2 b1 (List.map (Value.int .u8) S4)) := A1.out.later hb
  replace HB : Hid (Below w.heap.size w w2) := HB.out.trans (Below.mono hb HB.out.size)
  clear hb
  obtain ⟨hlen0, hone0, hi0⟩ := by_cells (bz_by 0 (by decide) (by decide))
  have hth := there_new w2 32 #[.int .u8 0, .int .u8 0, .int .u8 0, .int .u8 0, .int .u8 0, .int .u8 0, .int .u8 0, .int .u8 0, .int .u8 0, .int .u8 0, .int .u8 0, .int .u8 0, .int .u8 0, .int .u8 0, .int .u8 0, .int .u8 0, .int .u8 0, .int .u8 0, .int .u8 0, .int .u8 0, .int .u8 0, .int .u8 0, .int .u8 0, .int .u8 0, .int .u8 0, .int .u8 0, .int .u8 0, .int .u8 0, .int .u8 0, .int .u8 0, .int .u8 0, .int .u8 0] rfl 22
  have hX : Hid (Below w2.heap.size w2 ((w2.alloc (.cells #[.int .u8 0, .int .u8 0, .int .u8 0, .int .u8 0, .int .u8 0, .int .u8 0, .int .u8 0, .int .u8 0, .int .u8 0, .int .u8 0, .int .u8 0, .int .u8 0, .int .u8 0, .int .u8 0, .int .u8 0, .int .u8 0, .int .u8 0, .int .u8 0, .int .u8 0, .int .u8 0, .int .u8 0, .int .u8 0, .int .u8 0, .int .u8 0, .int .u8 0, .int .u8 0, .int .u8 0, .int .u8 0, .int .u8 0, .int .u8 0, .int .u8 0, .int .u8 0] 22)).setCells w2.heap.size 0 (List.map (Value.int .u8) (bz 0)))) := bel_new w2 #[.int .u8 0, .int .u8 0, .int .u8 0, .int .u8 0, .int .u8 0, .int .u8 0, .int .u8 0, .int .u8 0, .int .u8 0, .int .u8 0, .int .u8 0, .int .u8 0, .int .u8 0, .int .u8 0, .int .u8 0, .int .u8 0, .int .u8 0, .int .u8 0, .int .u8 0, .int .u8 0, .int .u8 0, .int .u8 0, .int .u8 0, .int .u8 0, .int .u8 0, .int .u8 0, .int .u8 0, .int .u8 0, .int .u8 0, .int .u8 0, .int .u8 0, .int .u8 0] (List.map (Value.int .u8) (bz 0))
  generalize (List.map (Value.int .u8) (bz 0)) = cs at *
  go_upto_region 3 with (refine wpList_store_mid rfl 22 (.tmp 2) (.tmp 9) rfl (w2.heap.size) 0 cs.toArray rfl rfl (by simpa [hlen0] using hth) (by simpa using hi0) (all_oneCell_toArray hone0) ?_)
  clear hth hlen0 hone0 hi0
  generalize (w2.alloc (.cells #[.int .u8 0, .int .u8 0, .int .u8 0, .int .u8 0, .int .u8 0, .int .u8 0, .int .u8 0, .int .u8 0, .int .u8 0, .int .u8 0, .int .u8 0, .int .u8 0, .int .u8 0, .int .u8 0, .int .u8 0, .int .u8 0, .int .u8 0, .int .u8 0, .int .u8 0, .int .u8 0, .int .u8 0, .int .u8 0, .int .u8 0, .int .u8 0, .int .u8 0, .int .u8 0, .int .u8 0, .int .u8 0, .int .u8 0, .int .u8 0, .int .u8 0, .int .u8 0] 22)).setCells w2.heap.size 0 cs = W2 at *
  replace A1 : Hid (Arr W2 b1 (List.map (Value.int .u8) S4)) := A1.out.later hX.out
  replace HB : Hid (Below w.heap.size w W2) := HB.out.trans (Below.mono hX.out HB.out.size)
  clear hX
  have e0 : ∀ u, Sem.run Tryd.prog (binOp .eql 22 (.agg (List.map (Value.int .u8) (bz 0)).toArray) (.agg #[.int .u8 0, .int .u8 0, .int .u8 0, .int .u8 0, .int .u8 0, .int .u8 0, .int .u8 0, .int .u8 0, .int .u8 0, .int .u8 0, .int .u8 0, .int .u8 0, .int .u8 0, .int .u8 0, .int .u8 0, .int .u8 0, .int .u8 0, .int .u8 0, .int .u8 0, .int .u8 0, .int .u8 0, .int .u8 0, .int .u8 0, .int .u8 0, .int .u8 0, .int .u8 0, .int .u8 0, .int .u8 0, .int .u8 0, .int .u8 0, .int .u8 0, .int .u8 0])) u = .ok (.bool true) u := fun u => by
    rw [bz_arr 0]
    exact eql_same _ _ (bz_by 0 (by decide) (by decide)) (bz_by 0 (by decide) (by decide)) rfl u
  have e1 : ∀ u, Sem.run Tryd.prog (binOp .eql 22 (.agg (List.map (Value.int .u8) (cl (bz 255))).toArray) (.agg #[.int .u8 248, .int .u8 0, .int .u8 0, .int .u8 0, .int .u8 0, .int .u8 0, .int .u8 0, .int .u8 0, .int .u8 0, .int .u8 0, .int .u8 0, .int .u8 0, .int .u8 0, .int .u8 0, .int .u8 0, .int .u8 0, .int .u8 0, .int .u8 0, .int .u8 0, .int .u8 0, .int .u8 0, .int .u8 0, .int .u8 0, .int .u8 0, .int .u8 0, .int .u8 0, .int .u8 0, .int .u8 0, .int .u8 0, .int .u8 0, .int .u8 0, .int .u8 64])) u = .ok (.bool true) u := fun u => eql_same _ (248 :: (List.replicate 30 0 ++ [64])) (cl_by (bz_by 255 (by decide) (by decide))) (e248 ▸ cl_by (bz_by 255 (by decide) (by decide))) e248 u
  go_wp2_with (refine wpList_load_mid rfl 22 (.tmp 1) rfl b1 0 rfl (List.map (Value.int .u8) S4) _ A1.out.rng Tryd.underlying22 rfl (by_cells hby1).2.2 ?_)
  rw [bz_arr 0]
  refine (x_zero_c S4 hsec4 _).mono ?_
  rintro e w3 ⟨rfl, hb⟩
  replace A1 : Hid (Arr w3 b1 (List.map (Value.int .u8) S4)) := A1.out.later hb
  replace HB : Hid (Below w.heap.size w w3) := HB.out.trans (Below.mono hb HB.out.size)
  clear hb
  go_wp2_with fail
  rw [bz_arr 255]
  refine (clamp_c (bz 255) (bz_by 255 (by decide) (by decide)) _).mono ?_
  rintro e w4 ⟨rfl, hb⟩
  replace A1 : Hid (Arr w4 b1 (List.map (Value.int .u8) S4)) := A1.out.later hb
  replace HB : Hid (Below w.heap.size w w4) := HB.out.trans (Below.mono hb HB.out.size)
  clear hb
  go_wp2
  go_ret
  exact ⟨rfl, HB.out⟩
end Go.Proofs.YtggjifpcoidipaaDoor
