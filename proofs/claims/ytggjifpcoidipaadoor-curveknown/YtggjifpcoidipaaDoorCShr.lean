/-
  What curve's Shared does. No statement of the seat is proved here.
-/
import Derived.Test.YtggjifpcoidipaaDoorCPub
namespace Go.Proofs.YtggjifpcoidipaaDoor
open Go.RowKit

set_option maxHeartbeats 4000000 in
theorem shared_c (k l : List Int) (hk : By k) (hl : By l) (w : World) :
    Calls Tryd.prog 22 #[(.agg (List.map (Value.int .u8) k).toArray), (.agg (List.map (Value.int .u8) l).toArray)] w fun e w' => ((lay 32 (xn (leN (cl k)) (num l)) = bz 0 ∧ e = .returned (.tuple #[(.agg (List.map (Value.int .u8) (bz 0)).toArray), .int .i64 10])) ∨ (lay 32 (xn (leN (cl k)) (num l)) ≠ bz 0 ∧ e = .returned (.tuple #[(.agg (List.map (Value.int .u8) (lay 32 (xn (leN (cl k)) (num l)))).toArray), .int .i64 0]))) ∧ Below w.heap.size w w' := by
  go_enter Tryd.func22, Tryd.ntmps22
  go_upto_region 1 with fail
  have A2 : Hid (Arr (((w.alloc (.cells (List.map (Value.int .u8) k).toArray 22)).alloc (.cells (List.map (Value.int .u8) l).toArray 22)).alloc (.cells #[.int .u8 0, .int .u8 0, .int .u8 0, .int .u8 0, .int .u8 0, .int .u8 0, .int .u8 0, .int .u8 0, .int .u8 0, .int .u8 0, .int .u8 0, .int .u8 0, .int .u8 0, .int .u8 0, .int .u8 0, .int .u8 0, .int .u8 0, .int .u8 0, .int .u8 0, .int .u8 0, .int .u8 0, .int .u8 0, .int .u8 0, .int .u8 0, .int .u8 0, .int .u8 0, .int .u8 0, .int .u8 0, .int .u8 0, .int .u8 0, .int .u8 0, .int .u8 0] 22)) (w.heap.size) (List.map (Value.int .u8) k)) := ((arr_box w k hk).later (bel1 _ _)).later (bel1 _ _)
  have A3 : Hid (Arr (((w.alloc (.cells (List.map (Value.int .u8) k).toArray 22)).alloc (.cells (List.map (Value.int .u8) l).toArray 22)).alloc (.cells #[.int .u8 0, .int .u8 0, .int .u8 0, .int .u8 0, .int .u8 0, .int .u8 0, .int .u8 0, .int .u8 0, .int .u8 0, .int .u8 0, .int .u8 0, .int .u8 0, .int .u8 0, .int .u8 0, .int .u8 0, .int .u8 0, .int .u8 0, .int .u8 0, .int .u8 0, .int .u8 0, .int .u8 0, .int .u8 0, .int .u8 0, .int .u8 0, .int .u8 0, .int .u8 0, .int .u8 0, .int .u8 0, .int .u8 0, .int .u8 0, .int .u8 0, .int .u8 0] 22)) (w.heap.size + 1) (List.map (Value.int .u8) l)) := by
    have := (arr_box (w.alloc (.cells (List.map (Value.int .u8) k).toArray 22)) l hl).later (bel1 _ (.cells #[.int .u8 0, .int .u8 0, .int .u8 0, .int .u8 0, .int .u8 0, .int .u8 0, .int .u8 0, .int .u8 0, .int .u8 0, .int .u8 0, .int .u8 0, .int .u8 0, .int .u8 0, .int .u8 0, .int .u8 0, .int .u8 0, .int .u8 0, .int .u8 0, .int .u8 0, .int .u8 0, .int .u8 0, .int .u8 0, .int .u8 0, .int .u8 0, .int .u8 0, .int .u8 0, .int .u8 0, .int .u8 0, .int .u8 0, .int .u8 0, .int .u8 0, .int .u8 0] 22))
    simpa [Hid] using this
  have A4 : Hid (Arr (((w.alloc (.cells (List.map (Value.int .u8) k).toArray 22)).alloc (.cells (List.map (Value.int .u8) l).toArray 22)).alloc (.cells #[.int .u8 0, .int .u8 0, .int .u8 0, .int .u8 0, .int .u8 0, .int .u8 0, .int .u8 0, .int .u8 0, .int .u8 0, .int .u8 0, .int .u8 0, .int .u8 0, .int .u8 0, .int .u8 0, .int .u8 0, .int .u8 0, .int .u8 0, .int .u8 0, .int .u8 0, .int .u8 0, .int .u8 0, .int .u8 0, .int .u8 0, .int .u8 0, .int .u8 0, .int .u8 0, .int .u8 0, .int .u8 0, .int .u8 0, .int .u8 0, .int .u8 0, .int .u8 0] 22)) (w.heap.size + 1 + 1) (List.map (Value.int .u8) (bz 0))) := by
    have := arr_box ((w.alloc (.cells (List.map (Value.int .u8) k).toArray 22)).alloc (.cells (List.map (Value.int .u8) l).toArray 22)) (bz 0) (bz_by 0 (by decide) (by decide))
    have e : (List.map (Value.int .u8) (bz 0)).toArray = #[.int .u8 0, .int .u8 0, .int .u8 0, .int .u8 0, .int .u8 0, .int .u8 0, .int .u8 0, .int .u8 0, .int .u8 0, .int .u8 0, .int .u8 0, .int .u8 0, .int .u8 0, .int .u8 0, .int .u8 0, .int .u8 0, .int .u8 0, .int .u8 0, .int .u8 0, .int .u8 0, .int .u8 0, .int .u8 0, .int .u8 0, .int .u8 0, .int .u8 0, .int .u8 0, .int .u8 0, .int .u8 0, .int .u8 0, .int .u8 0, .int .u8 0, .int .u8 0] := rfl
    rw [e] at this
    simpa [Hid] using this
  have HB : Hid (Below w.heap.size w (((w.alloc (.cells (List.map (Value.int .u8) k).toArray 22)).alloc (.cells (List.map (Value.int .u8) l).toArray 22)).alloc (.cells #[.int .u8 0, .int .u8 0, .int .u8 0, .int .u8 0, .int .u8 0, .int .u8 0, .int .u8 0, .int .u8 0, .int .u8 0, .int .u8 0, .int .u8 0, .int .u8 0, .int .u8 0, .int .u8 0, .int .u8 0, .int .u8 0, .int .u8 0, .int .u8 0, .int .u8 0, .int .u8 0, .int .u8 0, .int .u8 0, .int .u8 0, .int .u8 0, .int .u8 0, .int .u8 0, .int .u8 0, .int .u8 0, .int .u8 0, .int .u8 0, .int .u8 0, .int .u8 0] 22))) := bel3 _ _ _ _
  generalize ((w.alloc (.cells (List.map (Value.int .u8) k).toArray 22)).alloc (.cells (List.map (Value.int .u8) l).toArray 22)).alloc (.cells #[.int .u8 0, .int .u8 0, .int .u8 0, .int .u8 0, .int .u8 0, .int .u8 0, .int .u8 0, .int .u8 0, .int .u8 0, .int .u8 0, .int .u8 0, .int .u8 0, .int .u8 0, .int .u8 0, .int .u8 0, .int .u8 0, .int .u8 0, .int .u8 0, .int .u8 0, .int .u8 0, .int .u8 0, .int .u8 0, .int .u8 0, .int .u8 0, .int .u8 0, .int .u8 0, .int .u8 0, .int .u8 0, .int .u8 0, .int .u8 0, .int .u8 0, .int .u8 0] 22) = W0 at *
  have hq1 : w.heap.size < w.heap.size + 1 := by omega
  have hq2 : w.heap.size + 1 < w.heap.size + 1 + 1 := by omega
  generalize w.heap.size + 1 + 1 = q2 at *
  generalize w.heap.size + 1 = q1 at *
  go_wp2_with (first | (refine wpList_load_mid rfl 22 (.tmp 2) rfl (w.heap.size) 0 rfl (List.map (Value.int .u8) k) _ A2.out.rng Tryd.underlying22 rfl (by_cells hk).2.2 ?_) | (refine wpList_load_mid rfl 22 (.tmp 3) rfl q1 0 rfl (List.map (Value.int .u8) l) _ A3.out.rng Tryd.underlying22 rfl (by_cells hl).2.2 ?_))
  refine (x_c k l hk hl _).mono ?_
  rintro e u1_0 ⟨rfl, hb1_0⟩
  have hc1_1 : Hid (Below W0.heap.size W0 u1_0) := hb1_0
  clear hb1_0
  have hby6 := (lay_by (xn (leN (cl k)) (num l)))
  generalize hcs : (List.map (Value.int .u8) (lay 32 (xn (leN (cl k)) (num l)))) = cs6 at *
  have HC6 : Hid ((List.map (Value.int .u8) (lay 32 (xn (leN (cl k)) (num l)))) = cs6) := hcs
  clear hcs
  obtain ⟨hlen6, hone6, hi6⟩ := by_cells' hby6 HC6
  have hth := there_new u1_0 32 #[.int .u8 0, .int .u8 0, .int .u8 0, .int .u8 0, .int .u8 0, .int .u8 0, .int .u8 0, .int .u8 0, .int .u8 0, .int .u8 0, .int .u8 0, .int .u8 0, .int .u8 0, .int .u8 0, .int .u8 0, .int .u8 0, .int .u8 0, .int .u8 0, .int .u8 0, .int .u8 0, .int .u8 0, .int .u8 0, .int .u8 0, .int .u8 0, .int .u8 0, .int .u8 0, .int .u8 0, .int .u8 0, .int .u8 0, .int .u8 0, .int .u8 0, .int .u8 0] rfl 22
  have A6 := arr_new u1_0 #[.int .u8 0, .int .u8 0, .int .u8 0, .int .u8 0, .int .u8 0, .int .u8 0, .int .u8 0, .int .u8 0, .int .u8 0, .int .u8 0, .int .u8 0, .int .u8 0, .int .u8 0, .int .u8 0, .int .u8 0, .int .u8 0, .int .u8 0, .int .u8 0, .int .u8 0, .int .u8 0, .int .u8 0, .int .u8 0, .int .u8 0, .int .u8 0, .int .u8 0, .int .u8 0, .int .u8 0, .int .u8 0, .int .u8 0, .int .u8 0, .int .u8 0, .int .u8 0] rfl cs6 hlen6
  have N6 := bel_new u1_0 #[.int .u8 0, .int .u8 0, .int .u8 0, .int .u8 0, .int .u8 0, .int .u8 0, .int .u8 0, .int .u8 0, .int .u8 0, .int .u8 0, .int .u8 0, .int .u8 0, .int .u8 0, .int .u8 0, .int .u8 0, .int .u8 0, .int .u8 0, .int .u8 0, .int .u8 0, .int .u8 0, .int .u8 0, .int .u8 0, .int .u8 0, .int .u8 0, .int .u8 0, .int .u8 0, .int .u8 0, .int .u8 0, .int .u8 0, .int .u8 0, .int .u8 0, .int .u8 0] cs6
  have hX : Hid (Below W0.heap.size W0 ((u1_0.alloc (.cells #[.int .u8 0, .int .u8 0, .int .u8 0, .int .u8 0, .int .u8 0, .int .u8 0, .int .u8 0, .int .u8 0, .int .u8 0, .int .u8 0, .int .u8 0, .int .u8 0, .int .u8 0, .int .u8 0, .int .u8 0, .int .u8 0, .int .u8 0, .int .u8 0, .int .u8 0, .int .u8 0, .int .u8 0, .int .u8 0, .int .u8 0, .int .u8 0, .int .u8 0, .int .u8 0, .int .u8 0, .int .u8 0, .int .u8 0, .int .u8 0, .int .u8 0, .int .u8 0] 22)).setCells u1_0.heap.size 0 cs6)) := hc1_1.out.trans (N6.mono hc1_1.out.size)
  have hge6 : w.heap.size ≤ u1_0.heap.size := Nat.le_trans HB.out.size hc1_1.out.size
  have lt6_A2 : (w.heap.size) < u1_0.heap.size := (A2.out.later hc1_1.out).lt
  have lt6_A3 : q1 < u1_0.heap.size := (A3.out.later hc1_1.out).lt
  have lt6_A4 : q2 < u1_0.heap.size := (A4.out.later hc1_1.out).lt
  go_upto_region 2 with (refine wpList_store_mid rfl 22 (.tmp 6) (.tmp 10) rfl (u1_0.heap.size) 0 cs6.toArray rfl rfl (by simpa [hlen6] using hth) (by simpa using hi6) (all_oneCell_toArray hone6) ?_)
  clear hth
  generalize (u1_0.alloc (.cells #[.int .u8 0, .int .u8 0, .int .u8 0, .int .u8 0, .int .u8 0, .int .u8 0, .int .u8 0, .int .u8 0, .int .u8 0, .int .u8 0, .int .u8 0, .int .u8 0, .int .u8 0, .int .u8 0, .int .u8 0, .int .u8 0, .int .u8 0, .int .u8 0, .int .u8 0, .int .u8 0, .int .u8 0, .int .u8 0, .int .u8 0, .int .u8 0, .int .u8 0, .int .u8 0, .int .u8 0, .int .u8 0, .int .u8 0, .int .u8 0, .int .u8 0, .int .u8 0] 22)).setCells u1_0.heap.size 0 cs6 = W6 at *
  generalize u1_0.heap.size = b6 at *
  replace A2 : Hid (Arr W6 (w.heap.size) (List.map (Value.int .u8) k)) := A2.out.later hX.out
  replace A3 : Hid (Arr W6 q1 (List.map (Value.int .u8) l)) := A3.out.later hX.out
  replace A4 : Hid (Arr W6 q2 (List.map (Value.int .u8) (bz 0))) := A4.out.later hX.out
  replace HB : Hid (Below w.heap.size w W6) := HB.out.trans (Below.mono hX.out HB.out.size)
  clear hX hc1_1 N6
  have HC := HC6.out
  subst HC
  have A6' : Hid (Arr W6 b6 (List.map (Value.int .u8) (lay 32 (xn (leN (cl k)) (num l))))) := A6
  clear A6 HC6 hlen6 hone6 hi6
  have A6 := A6'
  clear A6'
  obtain ⟨hlen0, hone0, hi0⟩ := by_cells (bz_by 0 (by decide) (by decide))
  have hth := there_new W6 32 #[.int .u8 0, .int .u8 0, .int .u8 0, .int .u8 0, .int .u8 0, .int .u8 0, .int .u8 0, .int .u8 0, .int .u8 0, .int .u8 0, .int .u8 0, .int .u8 0, .int .u8 0, .int .u8 0, .int .u8 0, .int .u8 0, .int .u8 0, .int .u8 0, .int .u8 0, .int .u8 0, .int .u8 0, .int .u8 0, .int .u8 0, .int .u8 0, .int .u8 0, .int .u8 0, .int .u8 0, .int .u8 0, .int .u8 0, .int .u8 0, .int .u8 0, .int .u8 0] rfl 22
  have A7 : Hid (Arr ((W6.alloc (.cells #[.int .u8 0, .int .u8 0, .int .u8 0, .int .u8 0, .int .u8 0, .int .u8 0, .int .u8 0, .int .u8 0, .int .u8 0, .int .u8 0, .int .u8 0, .int .u8 0, .int .u8 0, .int .u8 0, .int .u8 0, .int .u8 0, .int .u8 0, .int .u8 0, .int .u8 0, .int .u8 0, .int .u8 0, .int .u8 0, .int .u8 0, .int .u8 0, .int .u8 0, .int .u8 0, .int .u8 0, .int .u8 0, .int .u8 0, .int .u8 0, .int .u8 0, .int .u8 0] 22)).setCells W6.heap.size 0 (List.map (Value.int .u8) (bz 0))) W6.heap.size (List.map (Value.int .u8) (bz 0))) := arr_new W6 #[.int .u8 0, .int .u8 0, .int .u8 0, .int .u8 0, .int .u8 0, .int .u8 0, .int .u8 0, .int .u8 0, .int .u8 0, .int .u8 0, .int .u8 0, .int .u8 0, .int .u8 0, .int .u8 0, .int .u8 0, .int .u8 0, .int .u8 0, .int .u8 0, .int .u8 0, .int .u8 0, .int .u8 0, .int .u8 0, .int .u8 0, .int .u8 0, .int .u8 0, .int .u8 0, .int .u8 0, .int .u8 0, .int .u8 0, .int .u8 0, .int .u8 0, .int .u8 0] rfl (List.map (Value.int .u8) (bz 0)) hlen0
  have hX : Hid (Below W6.heap.size W6 ((W6.alloc (.cells #[.int .u8 0, .int .u8 0, .int .u8 0, .int .u8 0, .int .u8 0, .int .u8 0, .int .u8 0, .int .u8 0, .int .u8 0, .int .u8 0, .int .u8 0, .int .u8 0, .int .u8 0, .int .u8 0, .int .u8 0, .int .u8 0, .int .u8 0, .int .u8 0, .int .u8 0, .int .u8 0, .int .u8 0, .int .u8 0, .int .u8 0, .int .u8 0, .int .u8 0, .int .u8 0, .int .u8 0, .int .u8 0, .int .u8 0, .int .u8 0, .int .u8 0, .int .u8 0] 22)).setCells W6.heap.size 0 (List.map (Value.int .u8) (bz 0)))) := bel_new W6 #[.int .u8 0, .int .u8 0, .int .u8 0, .int .u8 0, .int .u8 0, .int .u8 0, .int .u8 0, .int .u8 0, .int .u8 0, .int .u8 0, .int .u8 0, .int .u8 0, .int .u8 0, .int .u8 0, .int .u8 0, .int .u8 0, .int .u8 0, .int .u8 0, .int .u8 0, .int .u8 0, .int .u8 0, .int .u8 0, .int .u8 0, .int .u8 0, .int .u8 0, .int .u8 0, .int .u8 0, .int .u8 0, .int .u8 0, .int .u8 0, .int .u8 0, .int .u8 0] (List.map (Value.int .u8) (bz 0))
  have l67 : b6 < W6.heap.size := A6.out.lt
  go_upto_region 3 with (refine wpList_store_mid rfl 22 (.tmp 7) (.tmp 11) rfl (W6.heap.size) 0 (List.map (Value.int .u8) (bz 0)).toArray rfl rfl (by simpa [hlen0] using hth) (by simpa using hi0) (all_oneCell_toArray hone0) ?_)
  clear hth hlen0 hone0 hi0
  generalize (W6.alloc (.cells #[.int .u8 0, .int .u8 0, .int .u8 0, .int .u8 0, .int .u8 0, .int .u8 0, .int .u8 0, .int .u8 0, .int .u8 0, .int .u8 0, .int .u8 0, .int .u8 0, .int .u8 0, .int .u8 0, .int .u8 0, .int .u8 0, .int .u8 0, .int .u8 0, .int .u8 0, .int .u8 0, .int .u8 0, .int .u8 0, .int .u8 0, .int .u8 0, .int .u8 0, .int .u8 0, .int .u8 0, .int .u8 0, .int .u8 0, .int .u8 0, .int .u8 0, .int .u8 0] 22)).setCells W6.heap.size 0 (List.map (Value.int .u8) (bz 0)) = W7 at *
  obtain ⟨b7, hs7⟩ : ∃ b, b = W6.heap.size := ⟨_, rfl⟩
  replace A2 : Hid (Arr W7 (w.heap.size) (List.map (Value.int .u8) k)) := A2.out.later hX.out
  replace A3 : Hid (Arr W7 q1 (List.map (Value.int .u8) l)) := A3.out.later hX.out
  replace A4 : Hid (Arr W7 q2 (List.map (Value.int .u8) (bz 0))) := A4.out.later hX.out
  replace A6 : Hid (Arr W7 b6 (List.map (Value.int .u8) (lay 32 (xn (leN (cl k)) (num l))))) := A6.out.later hX.out
  replace HB : Hid (Below w.heap.size w W7) := HB.out.trans (Below.mono hX.out HB.out.size)
  clear hX
  rw [← hs7] at A7 l67 ⊢
  clear hs7
  refine wp_region_noPanic ?_
  refine wp_region_held_drew (S := Ext W7) (by kernel_rfl) (Ext.refl _).drew (fun hH => ?_)
  change wpAnyH _ _ _ _ _ _ #[false, false, false] _ _
  refine wpAnyH_take (i := 0) (oi := ?o0r3) (v := ?v0r3) ?h0r3 (by kernel_rfl) ?f0r3 ?r0r3 (fun _ _ _ h => h) (Or.inl ⟨?w0r3, ?y0r3⟩) (by assumption) ?t0r3
  case h0r3 => simp only [List.getElem?_toArray]; rfl
  case f0r3 => kernel_rfl
  case r0r3 => kernel_rfl
  case w0r3 => rfl
  case y0r3 => (intro u hu; (go_simp) <;> with_reducible rfl)
  try simp only [Act.put, List.setIfInBounds_toArray, List.set_cons_zero, List.set_cons_succ]
  refine wpAnyH_take (i := 1) (oi := ?o1r3) (v := ?v1r3) ?h1r3 (by kernel_rfl) ?f1r3 ?r1r3 (fun _ _ _ h => h) (Or.inl ⟨?w1r3, ?y1r3⟩) (by assumption) ?t1r3
  case h1r3 => simp only [List.getElem?_toArray]; rfl
  case f1r3 => kernel_rfl
  case r1r3 => kernel_rfl
  case w1r3 => rfl
  case y1r3 => (intro u hu; (go_simp) <;> with_reducible rfl)
  try simp only [Act.put, List.setIfInBounds_toArray, List.set_cons_zero, List.set_cons_succ]
  refine wpAnyH_ready (rs := [2]) (by kernel_rfl) (by simp) ?_
  refine AllReadyH.cons (o := ?o2r3) ?h2r3 (fun K hK => ?_) AllReadyH.nil
  case h2r3 => simp only [List.getElem?_toArray]; rfl
  go_simp
  refine (same_any _ 32 32 (lay 32 (xn (leN (cl k)) (num l))) _ 32 32 (bz 0) _ (rd_of (A6.out.later hH) (lay_by _)) (rd_of (A7.out.later hH) (bz_by 0 (by decide) (by decide))) (by decide) (by decide)).mono ?_
  rintro e w8 ⟨rfl, hb⟩
  refine hK.out _ _ (hH.trans hb) (fun hH' => ?_)
  clear hK K hH
  have hH := hH'
  clear hH'
  try simp only [List.setIfInBounds_toArray, List.set]
  refine wpAnyH_done (by kernel_rfl) ?_ _
  refine NoPanic.normal ?_
  clear hb
  replace A2 : Hid (Arr w8 (w.heap.size) (List.map (Value.int .u8) k)) := A2.out.later hH
  replace A3 : Hid (Arr w8 q1 (List.map (Value.int .u8) l)) := A3.out.later hH
  replace A4 : Hid (Arr w8 q2 (List.map (Value.int .u8) (bz 0))) := A4.out.later hH
  replace A6 : Hid (Arr w8 b6 (List.map (Value.int .u8) (lay 32 (xn (leN (cl k)) (num l))))) := A6.out.later hH
  replace A7 : Hid (Arr w8 b7 (List.map (Value.int .u8) (bz 0))) := A7.out.later hH
  replace HB : Hid (Below w.heap.size w w8) := HB.out.trans (Below.mono hH HB.out.size)
  clear hH
  by_cases hz : (lay 32 (xn (leN (cl k)) (num l))) = bz 0
  · have hd : decide ((lay 32 (xn (leN (cl k)) (num l))) = bz 0) = true := by rw [decide_eq_true_iff]; exact hz
    rw [hd]
    have HZ : Hid ((lay 32 (xn (leN (cl k)) (num l))) = bz 0) := hz
    clear hz hd A2 A3 A6
    obtain ⟨hlen, hone, hi⟩ := by_cells (bz_by 0 (by decide) (by decide))
    generalize hcs : (List.map (Value.int .u8) (bz 0)) = cs at *
    have HE : Hid ((List.map (Value.int .u8) (bz 0)) = cs) := hcs
    clear hcs
    have HRr := A7.out.rng
    have HRr' : Hid (w8.rangeAt b7 0 cs) := HRr
    clear HRr
    go_wp2_with (first
      | (refine wpList_load_mid rfl 22 (.tmp 7) rfl b7 0 rfl cs _ HRr'.out Tryd.underlying22 rfl hi ?_)
      | (refine wpList_store_mid rfl 22 (.tmp 4) (.tmp 15) rfl q2 0 cs.toArray rfl rfl (by simpa [hlen] using A4.out.all) (by simpa using hi) (all_oneCell_toArray hone) ?_))
    have HR2 : Hid ((w8.setCells q2 0 cs).rangeAt q2 0 cs) := World.rangeAt_setCells_same _ _ _ _ (by rw [hlen]; exact A4.out.all)
    have hld := run_loadVar_mid (P := Tryd.prog) _ _ 0 22 _ _ HR2.out Tryd.underlying22 rfl hi
    exact bodyPost_ret (v := .tuple #[.agg cs.toArray, .int .i64 10]) (by simp [results, Tryd.results22, Sem.run_bind]; show (Sem.run _ (loadVar 22 ⟨q2, 0, none⟩) _).andThen _ = _; rw [hld]; rfl) rfl ⟨.inl ⟨HZ.out, by rw [HE.out]⟩, below_setCells _ (by omega) _ _ _ HB.out⟩
  · have hd : decide ((lay 32 (xn (leN (cl k)) (num l))) = bz 0) = false := by rw [decide_eq_false_iff_not]; exact hz
    rw [hd]
    have HZ : Hid ((lay 32 (xn (leN (cl k)) (num l))) ≠ bz 0) := hz
    clear hz hd A2 A3 A7
    obtain ⟨hlen, hone, hi⟩ := by_cells (lay_by _)
    generalize hcs : (List.map (Value.int .u8) (lay 32 (xn (leN (cl k)) (num l)))) = cs at *
    have HE : Hid ((List.map (Value.int .u8) (lay 32 (xn (leN (cl k)) (num l)))) = cs) := hcs
    clear hcs
    have HRr := A6.out.rng
    have HRr' : Hid (w8.rangeAt b6 0 cs) := HRr
    clear HRr
    go_wp2_with (first
      | (refine wpList_load_mid rfl 22 (.tmp 6) rfl b6 0 rfl cs _ HRr'.out Tryd.underlying22 rfl hi ?_)
      | (refine wpList_store_mid rfl 22 (.tmp 4) (.tmp 16) rfl q2 0 cs.toArray rfl rfl (by simpa [hlen] using A4.out.all) (by simpa using hi) (all_oneCell_toArray hone) ?_))
    have HR2 : Hid ((w8.setCells q2 0 cs).rangeAt q2 0 cs) := World.rangeAt_setCells_same _ _ _ _ (by rw [hlen]; exact A4.out.all)
    have hld := run_loadVar_mid (P := Tryd.prog) _ _ 0 22 _ _ HR2.out Tryd.underlying22 rfl hi
    exact bodyPost_ret (v := .tuple #[.agg cs.toArray, .int .i64 0]) (by simp [results, Tryd.results22, Sem.run_bind]; show (Sem.run _ (loadVar 22 ⟨q2, 0, none⟩) _).andThen _ = _; rw [hld]; rfl) rfl ⟨.inr ⟨HZ.out, by rw [HE.out]⟩, below_setCells _ (by omega) _ _ _ HB.out⟩
end Go.Proofs.YtggjifpcoidipaaDoor
