/-
  The walk of CurveThree: true for whatever is given. No statement of the seat is proved here.
-/
import Derived.Test.YtdfmbknofdkffaaCKnw
namespace Go.Proofs.Ytdfmbknofdkffaa
open Go.RowKit

set_option maxHeartbeats 8000000 in
theorem curveThree_walk (a b c : Int)  (w : World) :
    Calls Try.prog 5 #[.int .i64 a, .int .i64 b, .int .i64 c] w fun e w' => e = .returned (.bool true) ∧ Below w.heap.size w w' := by
  go_enter Try.func5, Try.ntmps5
  go_upto_region 1 with fail
  have HB : Hid (Below w.heap.size w w) := Below.refl _ _
  go_wp2_with fail
  refine (secret_c a _).mono ?_
  rintro e u1_0 ⟨rfl, hb1_0⟩
  have hsec12 := sec_by a
  generalize sec a = S12 at *
  have hc1_1 : Hid (Below w.heap.size w u1_0) := hb1_0
  clear hb1_0
  have hby7 := hsec12
  generalize hcs : (List.map (Value.int .u8) S12) = cs7 at *
  have HC7 : Hid ((List.map (Value.int .u8) S12) = cs7) := hcs
  clear hcs
  obtain ⟨hlen7, hone7, hi7⟩ := by_cells' hby7 HC7
  have hth := there_new u1_0 32 #[.int .u8 0, .int .u8 0, .int .u8 0, .int .u8 0, .int .u8 0, .int .u8 0, .int .u8 0, .int .u8 0, .int .u8 0, .int .u8 0, .int .u8 0, .int .u8 0, .int .u8 0, .int .u8 0, .int .u8 0, .int .u8 0, .int .u8 0, .int .u8 0, .int .u8 0, .int .u8 0, .int .u8 0, .int .u8 0, .int .u8 0, .int .u8 0, .int .u8 0, .int .u8 0, .int .u8 0, .int .u8 0, .int .u8 0, .int .u8 0, .int .u8 0, .int .u8 0] rfl 22
  have A7 := arr_new u1_0 #[.int .u8 0, .int .u8 0, .int .u8 0, .int .u8 0, .int .u8 0, .int .u8 0, .int .u8 0, .int .u8 0, .int .u8 0, .int .u8 0, .int .u8 0, .int .u8 0, .int .u8 0, .int .u8 0, .int .u8 0, .int .u8 0, .int .u8 0, .int .u8 0, .int .u8 0, .int .u8 0, .int .u8 0, .int .u8 0, .int .u8 0, .int .u8 0, .int .u8 0, .int .u8 0, .int .u8 0, .int .u8 0, .int .u8 0, .int .u8 0, .int .u8 0, .int .u8 0] rfl cs7 hlen7
  have N7 := bel_new u1_0 #[.int .u8 0, .int .u8 0, .int .u8 0, .int .u8 0, .int .u8 0, .int .u8 0, .int .u8 0, .int .u8 0, .int .u8 0, .int .u8 0, .int .u8 0, .int .u8 0, .int .u8 0, .int .u8 0, .int .u8 0, .int .u8 0, .int .u8 0, .int .u8 0, .int .u8 0, .int .u8 0, .int .u8 0, .int .u8 0, .int .u8 0, .int .u8 0, .int .u8 0, .int .u8 0, .int .u8 0, .int .u8 0, .int .u8 0, .int .u8 0, .int .u8 0, .int .u8 0] cs7
  have hX : Hid (Below w.heap.size w ((u1_0.alloc (.cells #[.int .u8 0, .int .u8 0, .int .u8 0, .int .u8 0, .int .u8 0, .int .u8 0, .int .u8 0, .int .u8 0, .int .u8 0, .int .u8 0, .int .u8 0, .int .u8 0, .int .u8 0, .int .u8 0, .int .u8 0, .int .u8 0, .int .u8 0, .int .u8 0, .int .u8 0, .int .u8 0, .int .u8 0, .int .u8 0, .int .u8 0, .int .u8 0, .int .u8 0, .int .u8 0, .int .u8 0, .int .u8 0, .int .u8 0, .int .u8 0, .int .u8 0, .int .u8 0] 22)).setCells u1_0.heap.size 0 cs7)) := hc1_1.out.trans (N7.mono hc1_1.out.size)
  have hge7 : w.heap.size ≤ u1_0.heap.size := Nat.le_trans HB.out.size hc1_1.out.size
  go_upto_region 2 with (refine wpList_store_mid rfl 22 (.tmp 7) (.tmp 12) rfl (u1_0.heap.size) 0 cs7.toArray rfl rfl (by simpa [hlen7] using hth) (by simpa using hi7) (all_oneCell_toArray hone7) ?_)
  clear hth
  generalize (u1_0.alloc (.cells #[.int .u8 0, .int .u8 0, .int .u8 0, .int .u8 0, .int .u8 0, .int .u8 0, .int .u8 0, .int .u8 0, .int .u8 0, .int .u8 0, .int .u8 0, .int .u8 0, .int .u8 0, .int .u8 0, .int .u8 0, .int .u8 0, .int .u8 0, .int .u8 0, .int .u8 0, .int .u8 0, .int .u8 0, .int .u8 0, .int .u8 0, .int .u8 0, .int .u8 0, .int .u8 0, .int .u8 0, .int .u8 0, .int .u8 0, .int .u8 0, .int .u8 0, .int .u8 0] 22)).setCells u1_0.heap.size 0 cs7 = W7 at *
  generalize u1_0.heap.size = b7 at *
  replace HB : Hid (Below w.heap.size w W7) := HB.out.trans (Below.mono hX.out HB.out.size)
  clear hX hc1_1 N7
  have HC := HC7.out
  subst HC
  have A7' : Hid (Arr W7 b7 (List.map (Value.int .u8) S12)) := A7
  clear A7 HC7 hlen7 hone7 hi7
  have A7 := A7'
  clear A7'
  go_wp2_with fail
  refine (secret_c b _).mono ?_
  rintro e u2_0 ⟨rfl, hb2_0⟩
  have hsec14 := sec_by b
  generalize sec b = S14 at *
  have hc2_1 : Hid (Below W7.heap.size W7 u2_0) := hb2_0
  clear hb2_0
  have hby8 := hsec14
  generalize hcs : (List.map (Value.int .u8) S14) = cs8 at *
  have HC8 : Hid ((List.map (Value.int .u8) S14) = cs8) := hcs
  clear hcs
  obtain ⟨hlen8, hone8, hi8⟩ := by_cells' hby8 HC8
  have hth := there_new u2_0 32 #[.int .u8 0, .int .u8 0, .int .u8 0, .int .u8 0, .int .u8 0, .int .u8 0, .int .u8 0, .int .u8 0, .int .u8 0, .int .u8 0, .int .u8 0, .int .u8 0, .int .u8 0, .int .u8 0, .int .u8 0, .int .u8 0, .int .u8 0, .int .u8 0, .int .u8 0, .int .u8 0, .int .u8 0, .int .u8 0, .int .u8 0, .int .u8 0, .int .u8 0, .int .u8 0, .int .u8 0, .int .u8 0, .int .u8 0, .int .u8 0, .int .u8 0, .int .u8 0] rfl 22
  have A8 := arr_new u2_0 #[.int .u8 0, .int .u8 0, .int .u8 0, .int .u8 0, .int .u8 0, .int .u8 0, .int .u8 0, .int .u8 0, .int .u8 0, .int .u8 0, .int .u8 0, .int .u8 0, .int .u8 0, .int .u8 0, .int .u8 0, .int .u8 0, .int .u8 0, .int .u8 0, .int .u8 0, .int .u8 0, .int .u8 0, .int .u8 0, .int .u8 0, .int .u8 0, .int .u8 0, .int .u8 0, .int .u8 0, .int .u8 0, .int .u8 0, .int .u8 0, .int .u8 0, .int .u8 0] rfl cs8 hlen8
  have N8 := bel_new u2_0 #[.int .u8 0, .int .u8 0, .int .u8 0, .int .u8 0, .int .u8 0, .int .u8 0, .int .u8 0, .int .u8 0, .int .u8 0, .int .u8 0, .int .u8 0, .int .u8 0, .int .u8 0, .int .u8 0, .int .u8 0, .int .u8 0, .int .u8 0, .int .u8 0, .int .u8 0, .int .u8 0, .int .u8 0, .int .u8 0, .int .u8 0, .int .u8 0, .int .u8 0, .int .u8 0, .int .u8 0, .int .u8 0, .int .u8 0, .int .u8 0, .int .u8 0, .int .u8 0] cs8
  have hX : Hid (Below W7.heap.size W7 ((u2_0.alloc (.cells #[.int .u8 0, .int .u8 0, .int .u8 0, .int .u8 0, .int .u8 0, .int .u8 0, .int .u8 0, .int .u8 0, .int .u8 0, .int .u8 0, .int .u8 0, .int .u8 0, .int .u8 0, .int .u8 0, .int .u8 0, .int .u8 0, .int .u8 0, .int .u8 0, .int .u8 0, .int .u8 0, .int .u8 0, .int .u8 0, .int .u8 0, .int .u8 0, .int .u8 0, .int .u8 0, .int .u8 0, .int .u8 0, .int .u8 0, .int .u8 0, .int .u8 0, .int .u8 0] 22)).setCells u2_0.heap.size 0 cs8)) := hc2_1.out.trans (N8.mono hc2_1.out.size)
  have hge8 : w.heap.size ≤ u2_0.heap.size := Nat.le_trans HB.out.size hc2_1.out.size
  have lt8_A7 : b7 < u2_0.heap.size := (A7.out.later hc2_1.out).lt
  go_upto_region 3 with (refine wpList_store_mid rfl 22 (.tmp 8) (.tmp 14) rfl (u2_0.heap.size) 0 cs8.toArray rfl rfl (by simpa [hlen8] using hth) (by simpa using hi8) (all_oneCell_toArray hone8) ?_)
  clear hth
  generalize (u2_0.alloc (.cells #[.int .u8 0, .int .u8 0, .int .u8 0, .int .u8 0, .int .u8 0, .int .u8 0, .int .u8 0, .int .u8 0, .int .u8 0, .int .u8 0, .int .u8 0, .int .u8 0, .int .u8 0, .int .u8 0, .int .u8 0, .int .u8 0, .int .u8 0, .int .u8 0, .int .u8 0, .int .u8 0, .int .u8 0, .int .u8 0, .int .u8 0, .int .u8 0, .int .u8 0, .int .u8 0, .int .u8 0, .int .u8 0, .int .u8 0, .int .u8 0, .int .u8 0, .int .u8 0] 22)).setCells u2_0.heap.size 0 cs8 = W8 at *
  generalize u2_0.heap.size = b8 at *
  replace A7 : Hid (Arr W8 b7 (List.map (Value.int .u8) S12)) := A7.out.later hX.out
  replace HB : Hid (Below w.heap.size w W8) := HB.out.trans (Below.mono hX.out HB.out.size)
  clear hX hc2_1 N8
  have HC := HC8.out
  subst HC
  have A8' : Hid (Arr W8 b8 (List.map (Value.int .u8) S14)) := A8
  clear A8 HC8 hlen8 hone8 hi8
  have A8 := A8'
  clear A8'
  go_wp2_with fail
  refine (secret_c c _).mono ?_
  rintro e u3_0 ⟨rfl, hb3_0⟩
  have hsec16 := sec_by c
  generalize sec c = S16 at *
  have hc3_1 : Hid (Below W8.heap.size W8 u3_0) := hb3_0
  clear hb3_0
  have hby9 := hsec16
  generalize hcs : (List.map (Value.int .u8) S16) = cs9 at *
  have HC9 : Hid ((List.map (Value.int .u8) S16) = cs9) := hcs
  clear hcs
  obtain ⟨hlen9, hone9, hi9⟩ := by_cells' hby9 HC9
  have hth := there_new u3_0 32 #[.int .u8 0, .int .u8 0, .int .u8 0, .int .u8 0, .int .u8 0, .int .u8 0, .int .u8 0, .int .u8 0, .int .u8 0, .int .u8 0, .int .u8 0, .int .u8 0, .int .u8 0, .int .u8 0, .int .u8 0, .int .u8 0, .int .u8 0, .int .u8 0, .int .u8 0, .int .u8 0, .int .u8 0, .int .u8 0, .int .u8 0, .int .u8 0, .int .u8 0, .int .u8 0, .int .u8 0, .int .u8 0, .int .u8 0, .int .u8 0, .int .u8 0, .int .u8 0] rfl 22
  have A9 := arr_new u3_0 #[.int .u8 0, .int .u8 0, .int .u8 0, .int .u8 0, .int .u8 0, .int .u8 0, .int .u8 0, .int .u8 0, .int .u8 0, .int .u8 0, .int .u8 0, .int .u8 0, .int .u8 0, .int .u8 0, .int .u8 0, .int .u8 0, .int .u8 0, .int .u8 0, .int .u8 0, .int .u8 0, .int .u8 0, .int .u8 0, .int .u8 0, .int .u8 0, .int .u8 0, .int .u8 0, .int .u8 0, .int .u8 0, .int .u8 0, .int .u8 0, .int .u8 0, .int .u8 0] rfl cs9 hlen9
  have N9 := bel_new u3_0 #[.int .u8 0, .int .u8 0, .int .u8 0, .int .u8 0, .int .u8 0, .int .u8 0, .int .u8 0, .int .u8 0, .int .u8 0, .int .u8 0, .int .u8 0, .int .u8 0, .int .u8 0, .int .u8 0, .int .u8 0, .int .u8 0, .int .u8 0, .int .u8 0, .int .u8 0, .int .u8 0, .int .u8 0, .int .u8 0, .int .u8 0, .int .u8 0, .int .u8 0, .int .u8 0, .int .u8 0, .int .u8 0, .int .u8 0, .int .u8 0, .int .u8 0, .int .u8 0] cs9
  have hX : Hid (Below W8.heap.size W8 ((u3_0.alloc (.cells #[.int .u8 0, .int .u8 0, .int .u8 0, .int .u8 0, .int .u8 0, .int .u8 0, .int .u8 0, .int .u8 0, .int .u8 0, .int .u8 0, .int .u8 0, .int .u8 0, .int .u8 0, .int .u8 0, .int .u8 0, .int .u8 0, .int .u8 0, .int .u8 0, .int .u8 0, .int .u8 0, .int .u8 0, .int .u8 0, .int .u8 0, .int .u8 0, .int .u8 0, .int .u8 0, .int .u8 0, .int .u8 0, .int .u8 0, .int .u8 0, .int .u8 0, .int .u8 0] 22)).setCells u3_0.heap.size 0 cs9)) := hc3_1.out.trans (N9.mono hc3_1.out.size)
  have hge9 : w.heap.size ≤ u3_0.heap.size := Nat.le_trans HB.out.size hc3_1.out.size
  have lt9_A7 : b7 < u3_0.heap.size := (A7.out.later hc3_1.out).lt
  have lt9_A8 : b8 < u3_0.heap.size := (A8.out.later hc3_1.out).lt
  go_upto_region 4 with (refine wpList_store_mid rfl 22 (.tmp 9) (.tmp 16) rfl (u3_0.heap.size) 0 cs9.toArray rfl rfl (by simpa [hlen9] using hth) (by simpa using hi9) (all_oneCell_toArray hone9) ?_)
  clear hth
  generalize (u3_0.alloc (.cells #[.int .u8 0, .int .u8 0, .int .u8 0, .int .u8 0, .int .u8 0, .int .u8 0, .int .u8 0, .int .u8 0, .int .u8 0, .int .u8 0, .int .u8 0, .int .u8 0, .int .u8 0, .int .u8 0, .int .u8 0, .int .u8 0, .int .u8 0, .int .u8 0, .int .u8 0, .int .u8 0, .int .u8 0, .int .u8 0, .int .u8 0, .int .u8 0, .int .u8 0, .int .u8 0, .int .u8 0, .int .u8 0, .int .u8 0, .int .u8 0, .int .u8 0, .int .u8 0] 22)).setCells u3_0.heap.size 0 cs9 = W9 at *
  generalize u3_0.heap.size = b9 at *
  replace A7 : Hid (Arr W9 b7 (List.map (Value.int .u8) S12)) := A7.out.later hX.out
  replace A8 : Hid (Arr W9 b8 (List.map (Value.int .u8) S14)) := A8.out.later hX.out
  replace HB : Hid (Below w.heap.size w W9) := HB.out.trans (Below.mono hX.out HB.out.size)
  clear hX hc3_1 N9
  have HC := HC9.out
  subst HC
  have A9' : Hid (Arr W9 b9 (List.map (Value.int .u8) S16)) := A9
  clear A9 HC9 hlen9 hone9 hi9
  have A9 := A9'
  clear A9'
  try simp only [Act.put]
  go_cut [10] from 11 (fun tv wc => ∃ (b : Nat) (v : Int), tv = .pointer (some ⟨b, 0, none⟩) ∧ El v ∧ Hid (v = xn (leN (cl S12)) (num (lay 32 (xn (leN (cl S14)) (num (lay 32 (xn (leN (cl S16)) 9))))))) ∧ Hid (Arr wc b (List.map (Value.int .u8) (lay 32 v))) ∧ W9.heap.size ≤ b ∧ Hid (Below W9.heap.size W9 wc))
  case first =>
    refine wp_region_noPanic ?_
    refine wp_region_held_drew (S := Ext W9) (by kernel_rfl) (Ext.refl _).drew (fun hH => ?_)
    change wpAnyH _ _ _ _ _ _ #[false, false, false, false, false, false, false, false] _ _
    generalize W9.drew = y0 at *
    refine wpAnyH_take (i := 0) (oi := ?o04a1) (v := .agg (List.map (Value.int .u8) S12).toArray) ?h04a1 (by kernel_rfl) ?f04a1 ?r04a1 (fun _ _ _ h => h) ?y04a1 (by assumption) ?t04a1
    case h04a1 => simp only [List.getElem?_toArray]; rfl
    case f04a1 => kernel_rfl
    case r04a1 => kernel_rfl
    case y04a1 => exact yieldsIf_load_mid (by rfl) 22 (.tmp 7) rfl b7 0 rfl (List.map (Value.int .u8) S12) _ (fun u hu => range_later hu A7.out.rng) Try.underlying22 rfl (by_cells hby7).2.2
    try simp only [Act.put, List.setIfInBounds_toArray, List.set_cons_zero, List.set_cons_succ]
    refine wpAnyH_take (i := 1) (oi := ?o14a2) (v := .agg (List.map (Value.int .u8) S14).toArray) ?h14a2 (by kernel_rfl) ?f14a2 ?r14a2 (fun _ _ _ h => h) ?y14a2 (by assumption) ?t14a2
    case h14a2 => simp only [List.getElem?_toArray]; rfl
    case f14a2 => kernel_rfl
    case r14a2 => kernel_rfl
    case y14a2 => exact yieldsIf_load_mid (by rfl) 22 (.tmp 8) rfl b8 0 rfl (List.map (Value.int .u8) S14) _ (fun u hu => range_later hu A8.out.rng) Try.underlying22 rfl (by_cells hby8).2.2
    try simp only [Act.put, List.setIfInBounds_toArray, List.set_cons_zero, List.set_cons_succ]
    refine wpAnyH_take (i := 2) (oi := ?o24a3) (v := .agg (List.map (Value.int .u8) S16).toArray) ?h24a3 (by kernel_rfl) ?f24a3 ?r24a3 (fun _ _ _ h => h) ?y24a3 (by assumption) ?t24a3
    case h24a3 => simp only [List.getElem?_toArray]; rfl
    case f24a3 => kernel_rfl
    case r24a3 => kernel_rfl
    case y24a3 => exact yieldsIf_load_mid (by rfl) 22 (.tmp 9) rfl b9 0 rfl (List.map (Value.int .u8) S16) _ (fun u hu => range_later hu A9.out.rng) Try.underlying22 rfl (by_cells hby9).2.2
    try simp only [Act.put, List.setIfInBounds_toArray, List.set_cons_zero, List.set_cons_succ]
    refine wpAnyH_ready (rs := [3, 6]) (by kernel_rfl) (by simp) ?_
    refine AllReadyH.cons (o := ?o34a4) ?h34a4 (fun K hK => ?c34a4) (AllReadyH.cons (o := ?o64a4) ?h64a4 (fun K hK => ?c64a4) AllReadyH.nil)
    case h34a4 => simp only [List.getElem?_toArray]; rfl
    case h64a4 => simp only [List.getElem?_toArray]; rfl
    case c34a4 =>
      go_simp
      refine (public_l S16 hby9 _).mono ?_
      rintro e y4a5 ⟨z20, rfl, hz20, Hz20, hb4a5⟩
      refine hK.out _ _ (hH.trans hb4a5) (fun hH' => ?_)
      clear hK K hH
      have hH := hH'
      clear hH'
      try simp only [List.setIfInBounds_toArray, List.set]
      clear hb4a5
      refine wpAnyH_ready (rs := [4, 6]) (by kernel_rfl) (by simp) ?_
      refine AllReadyH.cons (o := ?o44a6) ?h44a6 (fun K hK => ?c44a6) (AllReadyH.cons (o := ?o64a6) ?h64a6 (fun K hK => ?c64a6) AllReadyH.nil)
      case h44a6 => simp only [List.getElem?_toArray]; rfl
      case h64a6 => simp only [List.getElem?_toArray]; rfl
      case c44a6 =>
        go_simp
        refine (x_l S14 (lay 32 z20) hby8 (lay_by z20) _).mono ?_
        rintro e y4a7 ⟨z21, rfl, hz21, Hz21, hb4a7⟩
        refine hK.out _ _ (hH.trans hb4a7) (fun hH' => ?_)
        clear hK K hH
        have hH := hH'
        clear hH'
        try simp only [List.setIfInBounds_toArray, List.set]
        clear hb4a7
        refine wpAnyH_ready (rs := [5, 6]) (by kernel_rfl) (by simp) ?_
        refine AllReadyH.cons (o := ?o54a8) ?h54a8 (fun K hK => ?c54a8) (AllReadyH.cons (o := ?o64a8) ?h64a8 (fun K hK => ?c64a8) AllReadyH.nil)
        case h54a8 => simp only [List.getElem?_toArray]; rfl
        case h64a8 => simp only [List.getElem?_toArray]; rfl
        case c54a8 =>
          go_simp
          refine (x_l S12 (lay 32 z21) hby7 (lay_by z21) _).mono ?_
          rintro e y4a9 ⟨z22, rfl, hz22, Hz22, hb4a9⟩
          refine hK.out _ _ (hH.trans hb4a9) (fun hH' => ?_)
          clear hK K hH
          have hH := hH'
          clear hH'
          try simp only [List.setIfInBounds_toArray, List.set]
          clear hb4a9
          refine wpAnyH_ready (rs := [6]) (by kernel_rfl) (by simp) ?_
          refine AllReadyH.cons (o := ?o64a10) ?h64a10 (fun K hK => ?_) AllReadyH.nil
          case h64a10 => simp only [List.getElem?_toArray]; rfl
          go_simp
          have hLw : W9.heap.size ≤ y4a9.heap.size := hH.size
          refine hK.out _ _ (hH.trans (bel1 _ _)) (fun hH' => ?_)
          clear hK K hH
          have hH := hH'
          clear hH'
          try simp only [List.setIfInBounds_toArray, List.set]
          have hD : Hid ((y4a9.alloc (.cells #[.int .u8 0, .int .u8 0, .int .u8 0, .int .u8 0, .int .u8 0, .int .u8 0, .int .u8 0, .int .u8 0, .int .u8 0, .int .u8 0, .int .u8 0, .int .u8 0, .int .u8 0, .int .u8 0, .int .u8 0, .int .u8 0, .int .u8 0, .int .u8 0, .int .u8 0, .int .u8 0, .int .u8 0, .int .u8 0, .int .u8 0, .int .u8 0, .int .u8 0, .int .u8 0, .int .u8 0, .int .u8 0, .int .u8 0, .int .u8 0, .int .u8 0, .int .u8 0] 22)).there y4a9.heap.size 0 32) := there_new y4a9 32 #[.int .u8 0, .int .u8 0, .int .u8 0, .int .u8 0, .int .u8 0, .int .u8 0, .int .u8 0, .int .u8 0, .int .u8 0, .int .u8 0, .int .u8 0, .int .u8 0, .int .u8 0, .int .u8 0, .int .u8 0, .int .u8 0, .int .u8 0, .int .u8 0, .int .u8 0, .int .u8 0, .int .u8 0, .int .u8 0, .int .u8 0, .int .u8 0, .int .u8 0, .int .u8 0, .int .u8 0, .int .u8 0, .int .u8 0, .int .u8 0, .int .u8 0, .int .u8 0] rfl 22
          generalize y4a9.alloc (.cells #[.int .u8 0, .int .u8 0, .int .u8 0, .int .u8 0, .int .u8 0, .int .u8 0, .int .u8 0, .int .u8 0, .int .u8 0, .int .u8 0, .int .u8 0, .int .u8 0, .int .u8 0, .int .u8 0, .int .u8 0, .int .u8 0, .int .u8 0, .int .u8 0, .int .u8 0, .int .u8 0, .int .u8 0, .int .u8 0, .int .u8 0, .int .u8 0, .int .u8 0, .int .u8 0, .int .u8 0, .int .u8 0, .int .u8 0, .int .u8 0, .int .u8 0, .int .u8 0] 22) = x4a11 at *
          generalize y4a9.heap.size = bw at *
          obtain ⟨hlenw, honew, hiw⟩ := by_cells (lay_by z22)
          have HPw := (by unfold Hid at *; rw [Hz22, Hz21, Hz20] : Hid (z22 = xn (leN (cl S12)) (num (lay 32 (xn (leN (cl S14)) (num (lay 32 (xn (leN (cl S16)) 9))))))))
          generalize hcsw : (List.map (Value.int .u8) (lay 32 z22)) = csw at *
          refine wpAnyH_ready (rs := [7]) (by kernel_rfl) (by simp) ?_
          refine AllReadyH.cons (o := ?o4a12) ?h4a12 (fun K hK => ?_) AllReadyH.nil
          case h4a12 => simp only [List.getElem?_toArray]; rfl
          refine wp_store_mid 22 (.tmp 10) (.tmp 22) rfl bw 0 csw.toArray rfl rfl (by simpa [hlenw] using hD.out) (by simpa using hiw) (all_oneCell_toArray honew) ?_
          refine hK.out _ _ (below_setCells _ (by omega) _ _ _ hH) (fun hH' => ?_)
          clear hK K hH
          have hH := hH'
          clear hH'
          try simp only [List.setIfInBounds_toArray, List.set]
          refine wpAnyH_done (by kernel_rfl) ?_ _
          refine NoPanic.normal ?_
          go_wp2_with fail
          go_meet
          case rel => exact ⟨bw, z22, rfl, hz22, HPw, by rw [hcsw]; exact ⟨World.rangeAt_setCells_same _ _ _ _ (by rw [hlenw]; exact hD.out), World.there_setCells hD.out _ _ _⟩, hLw, hH⟩
        case c64a8 =>
          go_simp
          have hLw : W9.heap.size ≤ y4a7.heap.size := hH.size
          refine hK.out _ _ (hH.trans (bel1 _ _)) (fun hH' => ?_)
          clear hK K hH
          have hH := hH'
          clear hH'
          try simp only [List.setIfInBounds_toArray, List.set]
          have hD : Hid ((y4a7.alloc (.cells #[.int .u8 0, .int .u8 0, .int .u8 0, .int .u8 0, .int .u8 0, .int .u8 0, .int .u8 0, .int .u8 0, .int .u8 0, .int .u8 0, .int .u8 0, .int .u8 0, .int .u8 0, .int .u8 0, .int .u8 0, .int .u8 0, .int .u8 0, .int .u8 0, .int .u8 0, .int .u8 0, .int .u8 0, .int .u8 0, .int .u8 0, .int .u8 0, .int .u8 0, .int .u8 0, .int .u8 0, .int .u8 0, .int .u8 0, .int .u8 0, .int .u8 0, .int .u8 0] 22)).there y4a7.heap.size 0 32) := there_new y4a7 32 #[.int .u8 0, .int .u8 0, .int .u8 0, .int .u8 0, .int .u8 0, .int .u8 0, .int .u8 0, .int .u8 0, .int .u8 0, .int .u8 0, .int .u8 0, .int .u8 0, .int .u8 0, .int .u8 0, .int .u8 0, .int .u8 0, .int .u8 0, .int .u8 0, .int .u8 0, .int .u8 0, .int .u8 0, .int .u8 0, .int .u8 0, .int .u8 0, .int .u8 0, .int .u8 0, .int .u8 0, .int .u8 0, .int .u8 0, .int .u8 0, .int .u8 0, .int .u8 0] rfl 22
          generalize y4a7.alloc (.cells #[.int .u8 0, .int .u8 0, .int .u8 0, .int .u8 0, .int .u8 0, .int .u8 0, .int .u8 0, .int .u8 0, .int .u8 0, .int .u8 0, .int .u8 0, .int .u8 0, .int .u8 0, .int .u8 0, .int .u8 0, .int .u8 0, .int .u8 0, .int .u8 0, .int .u8 0, .int .u8 0, .int .u8 0, .int .u8 0, .int .u8 0, .int .u8 0, .int .u8 0, .int .u8 0, .int .u8 0, .int .u8 0, .int .u8 0, .int .u8 0, .int .u8 0, .int .u8 0] 22) = x4a13 at *
          generalize y4a7.heap.size = bw at *
          refine wpAnyH_ready (rs := [5]) (by kernel_rfl) (by simp) ?_
          refine AllReadyH.cons (o := ?o54a14) ?h54a14 (fun K hK => ?_) AllReadyH.nil
          case h54a14 => simp only [List.getElem?_toArray]; rfl
          go_simp
          refine (x_l S12 (lay 32 z21) hby7 (lay_by z21) _).mono ?_
          rintro e y4a15 ⟨z22, rfl, hz22, Hz22, hb4a15⟩
          refine hK.out _ _ (hH.trans hb4a15) (fun hH' => ?_)
          clear hK K hH
          have hH := hH'
          clear hH'
          try simp only [List.setIfInBounds_toArray, List.set]
          replace hD : Hid (y4a15.there bw 0 32) := there_later hb4a15 hD.out
          clear hb4a15
          obtain ⟨hlenw, honew, hiw⟩ := by_cells (lay_by z22)
          have HPw := (by unfold Hid at *; rw [Hz22, Hz21, Hz20] : Hid (z22 = xn (leN (cl S12)) (num (lay 32 (xn (leN (cl S14)) (num (lay 32 (xn (leN (cl S16)) 9))))))))
          generalize hcsw : (List.map (Value.int .u8) (lay 32 z22)) = csw at *
          refine wpAnyH_ready (rs := [7]) (by kernel_rfl) (by simp) ?_
          refine AllReadyH.cons (o := ?o4a16) ?h4a16 (fun K hK => ?_) AllReadyH.nil
          case h4a16 => simp only [List.getElem?_toArray]; rfl
          refine wp_store_mid 22 (.tmp 10) (.tmp 22) rfl bw 0 csw.toArray rfl rfl (by simpa [hlenw] using hD.out) (by simpa using hiw) (all_oneCell_toArray honew) ?_
          refine hK.out _ _ (below_setCells _ (by omega) _ _ _ hH) (fun hH' => ?_)
          clear hK K hH
          have hH := hH'
          clear hH'
          try simp only [List.setIfInBounds_toArray, List.set]
          refine wpAnyH_done (by kernel_rfl) ?_ _
          refine NoPanic.normal ?_
          go_wp2_with fail
          go_meet
          case rel => exact ⟨bw, z22, rfl, hz22, HPw, by rw [hcsw]; exact ⟨World.rangeAt_setCells_same _ _ _ _ (by rw [hlenw]; exact hD.out), World.there_setCells hD.out _ _ _⟩, hLw, hH⟩
      case c64a6 =>
        go_simp
        have hLw : W9.heap.size ≤ y4a5.heap.size := hH.size
        refine hK.out _ _ (hH.trans (bel1 _ _)) (fun hH' => ?_)
        clear hK K hH
        have hH := hH'
        clear hH'
        try simp only [List.setIfInBounds_toArray, List.set]
        have hD : Hid ((y4a5.alloc (.cells #[.int .u8 0, .int .u8 0, .int .u8 0, .int .u8 0, .int .u8 0, .int .u8 0, .int .u8 0, .int .u8 0, .int .u8 0, .int .u8 0, .int .u8 0, .int .u8 0, .int .u8 0, .int .u8 0, .int .u8 0, .int .u8 0, .int .u8 0, .int .u8 0, .int .u8 0, .int .u8 0, .int .u8 0, .int .u8 0, .int .u8 0, .int .u8 0, .int .u8 0, .int .u8 0, .int .u8 0, .int .u8 0, .int .u8 0, .int .u8 0, .int .u8 0, .int .u8 0] 22)).there y4a5.heap.size 0 32) := there_new y4a5 32 #[.int .u8 0, .int .u8 0, .int .u8 0, .int .u8 0, .int .u8 0, .int .u8 0, .int .u8 0, .int .u8 0, .int .u8 0, .int .u8 0, .int .u8 0, .int .u8 0, .int .u8 0, .int .u8 0, .int .u8 0, .int .u8 0, .int .u8 0, .int .u8 0, .int .u8 0, .int .u8 0, .int .u8 0, .int .u8 0, .int .u8 0, .int .u8 0, .int .u8 0, .int .u8 0, .int .u8 0, .int .u8 0, .int .u8 0, .int .u8 0, .int .u8 0, .int .u8 0] rfl 22
        generalize y4a5.alloc (.cells #[.int .u8 0, .int .u8 0, .int .u8 0, .int .u8 0, .int .u8 0, .int .u8 0, .int .u8 0, .int .u8 0, .int .u8 0, .int .u8 0, .int .u8 0, .int .u8 0, .int .u8 0, .int .u8 0, .int .u8 0, .int .u8 0, .int .u8 0, .int .u8 0, .int .u8 0, .int .u8 0, .int .u8 0, .int .u8 0, .int .u8 0, .int .u8 0, .int .u8 0, .int .u8 0, .int .u8 0, .int .u8 0, .int .u8 0, .int .u8 0, .int .u8 0, .int .u8 0] 22) = x4a17 at *
        generalize y4a5.heap.size = bw at *
        refine wpAnyH_ready (rs := [4]) (by kernel_rfl) (by simp) ?_
        refine AllReadyH.cons (o := ?o44a18) ?h44a18 (fun K hK => ?_) AllReadyH.nil
        case h44a18 => simp only [List.getElem?_toArray]; rfl
        go_simp
        refine (x_l S14 (lay 32 z20) hby8 (lay_by z20) _).mono ?_
        rintro e y4a19 ⟨z21, rfl, hz21, Hz21, hb4a19⟩
        refine hK.out _ _ (hH.trans hb4a19) (fun hH' => ?_)
        clear hK K hH
        have hH := hH'
        clear hH'
        try simp only [List.setIfInBounds_toArray, List.set]
        replace hD : Hid (y4a19.there bw 0 32) := there_later hb4a19 hD.out
        clear hb4a19
        refine wpAnyH_ready (rs := [5]) (by kernel_rfl) (by simp) ?_
        refine AllReadyH.cons (o := ?o54a20) ?h54a20 (fun K hK => ?_) AllReadyH.nil
        case h54a20 => simp only [List.getElem?_toArray]; rfl
        go_simp
        refine (x_l S12 (lay 32 z21) hby7 (lay_by z21) _).mono ?_
        rintro e y4a21 ⟨z22, rfl, hz22, Hz22, hb4a21⟩
        refine hK.out _ _ (hH.trans hb4a21) (fun hH' => ?_)
        clear hK K hH
        have hH := hH'
        clear hH'
        try simp only [List.setIfInBounds_toArray, List.set]
        replace hD : Hid (y4a21.there bw 0 32) := there_later hb4a21 hD.out
        clear hb4a21
        obtain ⟨hlenw, honew, hiw⟩ := by_cells (lay_by z22)
        have HPw := (by unfold Hid at *; rw [Hz22, Hz21, Hz20] : Hid (z22 = xn (leN (cl S12)) (num (lay 32 (xn (leN (cl S14)) (num (lay 32 (xn (leN (cl S16)) 9))))))))
        generalize hcsw : (List.map (Value.int .u8) (lay 32 z22)) = csw at *
        refine wpAnyH_ready (rs := [7]) (by kernel_rfl) (by simp) ?_
        refine AllReadyH.cons (o := ?o4a22) ?h4a22 (fun K hK => ?_) AllReadyH.nil
        case h4a22 => simp only [List.getElem?_toArray]; rfl
        refine wp_store_mid 22 (.tmp 10) (.tmp 22) rfl bw 0 csw.toArray rfl rfl (by simpa [hlenw] using hD.out) (by simpa using hiw) (all_oneCell_toArray honew) ?_
        refine hK.out _ _ (below_setCells _ (by omega) _ _ _ hH) (fun hH' => ?_)
        clear hK K hH
        have hH := hH'
        clear hH'
        try simp only [List.setIfInBounds_toArray, List.set]
        refine wpAnyH_done (by kernel_rfl) ?_ _
        refine NoPanic.normal ?_
        go_wp2_with fail
        go_meet
        case rel => exact ⟨bw, z22, rfl, hz22, HPw, by rw [hcsw]; exact ⟨World.rangeAt_setCells_same _ _ _ _ (by rw [hlenw]; exact hD.out), World.there_setCells hD.out _ _ _⟩, hLw, hH⟩
    case c64a4 =>
      go_simp
      have hLw : W9.heap.size ≤ y0.heap.size := hH.size
      refine hK.out _ _ (hH.trans (bel1 _ _)) (fun hH' => ?_)
      clear hK K hH
      have hH := hH'
      clear hH'
      try simp only [List.setIfInBounds_toArray, List.set]
      have hD : Hid ((y0.alloc (.cells #[.int .u8 0, .int .u8 0, .int .u8 0, .int .u8 0, .int .u8 0, .int .u8 0, .int .u8 0, .int .u8 0, .int .u8 0, .int .u8 0, .int .u8 0, .int .u8 0, .int .u8 0, .int .u8 0, .int .u8 0, .int .u8 0, .int .u8 0, .int .u8 0, .int .u8 0, .int .u8 0, .int .u8 0, .int .u8 0, .int .u8 0, .int .u8 0, .int .u8 0, .int .u8 0, .int .u8 0, .int .u8 0, .int .u8 0, .int .u8 0, .int .u8 0, .int .u8 0] 22)).there y0.heap.size 0 32) := there_new y0 32 #[.int .u8 0, .int .u8 0, .int .u8 0, .int .u8 0, .int .u8 0, .int .u8 0, .int .u8 0, .int .u8 0, .int .u8 0, .int .u8 0, .int .u8 0, .int .u8 0, .int .u8 0, .int .u8 0, .int .u8 0, .int .u8 0, .int .u8 0, .int .u8 0, .int .u8 0, .int .u8 0, .int .u8 0, .int .u8 0, .int .u8 0, .int .u8 0, .int .u8 0, .int .u8 0, .int .u8 0, .int .u8 0, .int .u8 0, .int .u8 0, .int .u8 0, .int .u8 0] rfl 22
      generalize y0.alloc (.cells #[.int .u8 0, .int .u8 0, .int .u8 0, .int .u8 0, .int .u8 0, .int .u8 0, .int .u8 0, .int .u8 0, .int .u8 0, .int .u8 0, .int .u8 0, .int .u8 0, .int .u8 0, .int .u8 0, .int .u8 0, .int .u8 0, .int .u8 0, .int .u8 0, .int .u8 0, .int .u8 0, .int .u8 0, .int .u8 0, .int .u8 0, .int .u8 0, .int .u8 0, .int .u8 0, .int .u8 0, .int .u8 0, .int .u8 0, .int .u8 0, .int .u8 0, .int .u8 0] 22) = x4a23 at *
      generalize y0.heap.size = bw at *
      refine wpAnyH_ready (rs := [3]) (by kernel_rfl) (by simp) ?_
      refine AllReadyH.cons (o := ?o34a24) ?h34a24 (fun K hK => ?_) AllReadyH.nil
      case h34a24 => simp only [List.getElem?_toArray]; rfl
      go_simp
      refine (public_l S16 hby9 _).mono ?_
      rintro e y4a25 ⟨z20, rfl, hz20, Hz20, hb4a25⟩
      refine hK.out _ _ (hH.trans hb4a25) (fun hH' => ?_)
      clear hK K hH
      have hH := hH'
      clear hH'
      try simp only [List.setIfInBounds_toArray, List.set]
      replace hD : Hid (y4a25.there bw 0 32) := there_later hb4a25 hD.out
      clear hb4a25
      refine wpAnyH_ready (rs := [4]) (by kernel_rfl) (by simp) ?_
      refine AllReadyH.cons (o := ?o44a26) ?h44a26 (fun K hK => ?_) AllReadyH.nil
      case h44a26 => simp only [List.getElem?_toArray]; rfl
      go_simp
      refine (x_l S14 (lay 32 z20) hby8 (lay_by z20) _).mono ?_
      rintro e y4a27 ⟨z21, rfl, hz21, Hz21, hb4a27⟩
      refine hK.out _ _ (hH.trans hb4a27) (fun hH' => ?_)
      clear hK K hH
      have hH := hH'
      clear hH'
      try simp only [List.setIfInBounds_toArray, List.set]
      replace hD : Hid (y4a27.there bw 0 32) := there_later hb4a27 hD.out
      clear hb4a27
      refine wpAnyH_ready (rs := [5]) (by kernel_rfl) (by simp) ?_
      refine AllReadyH.cons (o := ?o54a28) ?h54a28 (fun K hK => ?_) AllReadyH.nil
      case h54a28 => simp only [List.getElem?_toArray]; rfl
      go_simp
      refine (x_l S12 (lay 32 z21) hby7 (lay_by z21) _).mono ?_
      rintro e y4a29 ⟨z22, rfl, hz22, Hz22, hb4a29⟩
      refine hK.out _ _ (hH.trans hb4a29) (fun hH' => ?_)
      clear hK K hH
      have hH := hH'
      clear hH'
      try simp only [List.setIfInBounds_toArray, List.set]
      replace hD : Hid (y4a29.there bw 0 32) := there_later hb4a29 hD.out
      clear hb4a29
      obtain ⟨hlenw, honew, hiw⟩ := by_cells (lay_by z22)
      have HPw := (by unfold Hid at *; rw [Hz22, Hz21, Hz20] : Hid (z22 = xn (leN (cl S12)) (num (lay 32 (xn (leN (cl S14)) (num (lay 32 (xn (leN (cl S16)) 9))))))))
      generalize hcsw : (List.map (Value.int .u8) (lay 32 z22)) = csw at *
      refine wpAnyH_ready (rs := [7]) (by kernel_rfl) (by simp) ?_
      refine AllReadyH.cons (o := ?o4a30) ?h4a30 (fun K hK => ?_) AllReadyH.nil
      case h4a30 => simp only [List.getElem?_toArray]; rfl
      refine wp_store_mid 22 (.tmp 10) (.tmp 22) rfl bw 0 csw.toArray rfl rfl (by simpa [hlenw] using hD.out) (by simpa using hiw) (all_oneCell_toArray honew) ?_
      refine hK.out _ _ (below_setCells _ (by omega) _ _ _ hH) (fun hH' => ?_)
      clear hK K hH
      have hH := hH'
      clear hH'
      try simp only [List.setIfInBounds_toArray, List.set]
      refine wpAnyH_done (by kernel_rfl) ?_ _
      refine NoPanic.normal ?_
      go_wp2_with fail
      go_meet
      case rel => exact ⟨bw, z22, rfl, hz22, HPw, by rw [hcsw]; exact ⟨World.rangeAt_setCells_same _ _ _ _ (by rw [hlenw]; exact hD.out), World.there_setCells hD.out _ _ _⟩, hLw, hH⟩
  obtain ⟨b10, v10, rfl, hv10, Hv10, A10, hge10, hX⟩ := hcut
  generalize wc = W10 at *
  replace A7 : Hid (Arr W10 b7 (List.map (Value.int .u8) S12)) := A7.out.later hX.out
  replace A8 : Hid (Arr W10 b8 (List.map (Value.int .u8) S14)) := A8.out.later hX.out
  replace A9 : Hid (Arr W10 b9 (List.map (Value.int .u8) S16)) := A9.out.later hX.out
  replace HB : Hid (Below w.heap.size w W10) := HB.out.trans (Below.mono hX.out HB.out.size)
  clear hX
  go_upto_region 5 with fail
  have H3 : Hid _ := three_l hsec12 hsec14 hsec16
  refine wp_region_noPanic ?_
  refine wp_region_held_drew (S := Ext W10) (by kernel_rfl) (Ext.refl _).drew (fun hH => ?_)
  change wpAnyH _ _ _ _ _ _ #[false, false, false, false, false, false, false, false, false, false, false, false, false, false, false, false, false, false, false, false, false, false] _ _
  refine wpAnyH_ready (rs := [0]) (by kernel_rfl) (by simp) ?_
  refine AllReadyH.cons (o := ?o0r5) ?h0r5 (fun K hK => ?_) AllReadyH.nil
  case h0r5 => simp only [List.getElem?_toArray]; rfl
  go_simp
  refine (known_any _).mono ?_
  rintro e c5_0 ⟨rfl, hb5_0⟩
  refine hK.out _ _ (hH.trans hb5_0) (fun hH' => ?_)
  clear hK K hH
  have hH := hH'
  clear hH'
  try simp only [List.setIfInBounds_toArray, List.set]
  clear hb5_0
  refine wpAnyH_take (i := 1) (oi := ?o1r5) (v := ?v1r5) ?h1r5 (by kernel_rfl) ?f1r5 ?r1r5 (fun _ _ _ h => h) (Or.inl ⟨?w1r5, ?y1r5⟩) (by assumption) ?t1r5
  case h1r5 => simp only [List.getElem?_toArray]; rfl
  case f1r5 => kernel_rfl
  case r1r5 => kernel_rfl
  case w1r5 => rfl
  case y1r5 => (intro u hu; (go_simp) <;> with_reducible rfl)
  try simp only [Act.put, List.setIfInBounds_toArray, List.set_cons_zero, List.set_cons_succ]
  refine wpAnyH_take (i := 2) (oi := ?o2r5) (v := .agg (List.map (Value.int .u8) (lay 32 v10)).toArray) ?h2r5 (by kernel_rfl) ?f2r5 ?r2r5 (fun _ _ _ h => h) ?y2r5 (by assumption) ?t2r5
  case h2r5 => simp only [List.getElem?_toArray]; rfl
  case f2r5 => kernel_rfl
  case r2r5 => kernel_rfl
  case y2r5 => exact yieldsIf_load_mid (by rfl) 22 (.tmp 10) rfl b10 0 rfl (List.map (Value.int .u8) (lay 32 v10)) _ (fun u hu => range_later hu A10.out.rng) Try.underlying22 rfl (by_cells (lay_by v10)).2.2
  try simp only [Act.put, List.setIfInBounds_toArray, List.set_cons_zero, List.set_cons_succ]
  refine wpAnyH_take (i := 3) (oi := ?o3r5) (v := .agg (List.map (Value.int .u8) S16).toArray) ?h3r5 (by kernel_rfl) ?f3r5 ?r3r5 (fun _ _ _ h => h) ?y3r5 (by assumption) ?t3r5
  case h3r5 => simp only [List.getElem?_toArray]; rfl
  case f3r5 => kernel_rfl
  case r3r5 => kernel_rfl
  case y3r5 => exact yieldsIf_load_mid (by rfl) 22 (.tmp 9) rfl b9 0 rfl (List.map (Value.int .u8) S16) _ (fun u hu => range_later hu A9.out.rng) Try.underlying22 rfl (by_cells hby9).2.2
  try simp only [Act.put, List.setIfInBounds_toArray, List.set_cons_zero, List.set_cons_succ]
  refine wpAnyH_take (i := 4) (oi := ?o4r5) (v := .agg (List.map (Value.int .u8) S12).toArray) ?h4r5 (by kernel_rfl) ?f4r5 ?r4r5 (fun _ _ _ h => h) ?y4r5 (by assumption) ?t4r5
  case h4r5 => simp only [List.getElem?_toArray]; rfl
  case f4r5 => kernel_rfl
  case r4r5 => kernel_rfl
  case y4r5 => exact yieldsIf_load_mid (by rfl) 22 (.tmp 7) rfl b7 0 rfl (List.map (Value.int .u8) S12) _ (fun u hu => range_later hu A7.out.rng) Try.underlying22 rfl (by_cells hby7).2.2
  try simp only [Act.put, List.setIfInBounds_toArray, List.set_cons_zero, List.set_cons_succ]
  refine wpAnyH_take (i := 5) (oi := ?o5r5) (v := .agg (List.map (Value.int .u8) S14).toArray) ?h5r5 (by kernel_rfl) ?f5r5 ?r5r5 (fun _ _ _ h => h) ?y5r5 (by assumption) ?t5r5
  case h5r5 => simp only [List.getElem?_toArray]; rfl
  case f5r5 => kernel_rfl
  case r5r5 => kernel_rfl
  case y5r5 => exact yieldsIf_load_mid (by rfl) 22 (.tmp 8) rfl b8 0 rfl (List.map (Value.int .u8) S14) _ (fun u hu => range_later hu A8.out.rng) Try.underlying22 rfl (by_cells hby8).2.2
  try simp only [Act.put, List.setIfInBounds_toArray, List.set_cons_zero, List.set_cons_succ]
  refine wpAnyH_ready (rs := [6]) (by kernel_rfl) (by simp) ?_
  refine AllReadyH.cons (o := ?o6r5) ?h6r5 (fun K hK => ?_) AllReadyH.nil
  case h6r5 => simp only [List.getElem?_toArray]; rfl
  go_simp
  refine (public_l S14 hby8 _).mono ?_
  rintro e c5_6 ⟨z29, rfl, hz29, Hz29, hb5_6⟩
  refine hK.out _ _ (hH.trans hb5_6) (fun hH' => ?_)
  clear hK K hH
  have hH := hH'
  clear hH'
  try simp only [List.setIfInBounds_toArray, List.set]
  clear hb5_6
  refine wpAnyH_ready (rs := [7]) (by kernel_rfl) (by simp) ?_
  refine AllReadyH.cons (o := ?o7r5) ?h7r5 (fun K hK => ?_) AllReadyH.nil
  case h7r5 => simp only [List.getElem?_toArray]; rfl
  go_simp
  refine (x_l S12 (lay 32 z29) hby7 (lay_by z29) _).mono ?_
  rintro e c5_7 ⟨z30, rfl, hz30, Hz30, hb5_7⟩
  refine hK.out _ _ (hH.trans hb5_7) (fun hH' => ?_)
  clear hK K hH
  have hH := hH'
  clear hH'
  try simp only [List.setIfInBounds_toArray, List.set]
  clear hb5_7
  refine wpAnyH_ready (rs := [8]) (by kernel_rfl) (by simp) ?_
  refine AllReadyH.cons (o := ?o8r5) ?h8r5 (fun K hK => ?_) AllReadyH.nil
  case h8r5 => simp only [List.getElem?_toArray]; rfl
  go_simp
  refine (x_l S16 (lay 32 z30) hby9 (lay_by z30) _).mono ?_
  rintro e c5_8 ⟨z31, rfl, hz31, Hz31, hb5_8⟩
  refine hK.out _ _ (hH.trans hb5_8) (fun hH' => ?_)
  clear hK K hH
  have hH := hH'
  clear hH'
  try simp only [List.setIfInBounds_toArray, List.set]
  clear hb5_8
  have hq32 : ∀ u, Sem.run Try.prog (binOp .eql 22 (.agg (List.map (Value.int .u8) (lay 32 v10)).toArray) (.agg (List.map (Value.int .u8) (lay 32 z31)).toArray)) u = .ok (.bool true) u := fun u => eql_same _ _ (lay_by _) (lay_by _) (by rw [Hv10.out, Hz31.out, Hz30.out, Hz29.out, H3.out.1]) u
  refine wpAnyH_take (i := 9) (oi := ?o9r5) (v := ?v9r5) ?h9r5 (by kernel_rfl) ?f9r5 ?r9r5 (fun _ _ _ h => h) (Or.inl ⟨?w9r5, ?y9r5⟩) (by assumption) ?t9r5
  case h9r5 => simp only [List.getElem?_toArray]; rfl
  case f9r5 => kernel_rfl
  case r9r5 => kernel_rfl
  case w9r5 => rfl
  case y9r5 => (intro u hu; (go_simp) <;> with_reducible rfl)
  try simp only [Act.put, List.setIfInBounds_toArray, List.set_cons_zero, List.set_cons_succ]
  refine wpAnyH_take (i := 10) (oi := ?o10r5) (v := ?v10r5) ?h10r5 (by kernel_rfl) ?f10r5 ?r10r5 (fun _ _ _ h => h) (Or.inl ⟨?w10r5, ?y10r5⟩) (by assumption) ?t10r5
  case h10r5 => simp only [List.getElem?_toArray]; rfl
  case f10r5 => kernel_rfl
  case r10r5 => kernel_rfl
  case w10r5 => rfl
  case y10r5 => (intro u hu; (go_simp) <;> with_reducible rfl)
  try simp only [Act.put, List.setIfInBounds_toArray, List.set_cons_zero, List.set_cons_succ]
  refine wpAnyH_take (i := 11) (oi := ?o11r5) (v := ?v11r5) ?h11r5 (by kernel_rfl) ?f11r5 ?r11r5 (fun _ _ _ h => h) (Or.inl ⟨?w11r5, ?y11r5⟩) (by assumption) ?t11r5
  case h11r5 => simp only [List.getElem?_toArray]; rfl
  case f11r5 => kernel_rfl
  case r11r5 => kernel_rfl
  case w11r5 => rfl
  case y11r5 => (intro u hu; (go_simp) <;> with_reducible rfl)
  try simp only [Act.put, List.setIfInBounds_toArray, List.set_cons_zero, List.set_cons_succ]
  refine wpAnyH_take (i := 12) (oi := ?o12r5) (v := .agg (List.map (Value.int .u8) (lay 32 v10)).toArray) ?h12r5 (by kernel_rfl) ?f12r5 ?r12r5 (fun _ _ _ h => h) ?y12r5 (by assumption) ?t12r5
  case h12r5 => simp only [List.getElem?_toArray]; rfl
  case f12r5 => kernel_rfl
  case r12r5 => kernel_rfl
  case y12r5 => exact yieldsIf_load_mid (by rfl) 22 (.tmp 10) rfl b10 0 rfl (List.map (Value.int .u8) (lay 32 v10)) _ (fun u hu => range_later hu A10.out.rng) Try.underlying22 rfl (by_cells (lay_by v10)).2.2
  try simp only [Act.put, List.setIfInBounds_toArray, List.set_cons_zero, List.set_cons_succ]
  refine wpAnyH_take (i := 13) (oi := ?o13r5) (v := .agg (List.map (Value.int .u8) S14).toArray) ?h13r5 (by kernel_rfl) ?f13r5 ?r13r5 (fun _ _ _ h => h) ?y13r5 (by assumption) ?t13r5
  case h13r5 => simp only [List.getElem?_toArray]; rfl
  case f13r5 => kernel_rfl
  case r13r5 => kernel_rfl
  case y13r5 => exact yieldsIf_load_mid (by rfl) 22 (.tmp 8) rfl b8 0 rfl (List.map (Value.int .u8) S14) _ (fun u hu => range_later hu A8.out.rng) Try.underlying22 rfl (by_cells hby8).2.2
  try simp only [Act.put, List.setIfInBounds_toArray, List.set_cons_zero, List.set_cons_succ]
  refine wpAnyH_take (i := 14) (oi := ?o14r5) (v := .agg (List.map (Value.int .u8) S16).toArray) ?h14r5 (by kernel_rfl) ?f14r5 ?r14r5 (fun _ _ _ h => h) ?y14r5 (by assumption) ?t14r5
  case h14r5 => simp only [List.getElem?_toArray]; rfl
  case f14r5 => kernel_rfl
  case r14r5 => kernel_rfl
  case y14r5 => exact yieldsIf_load_mid (by rfl) 22 (.tmp 9) rfl b9 0 rfl (List.map (Value.int .u8) S16) _ (fun u hu => range_later hu A9.out.rng) Try.underlying22 rfl (by_cells hby9).2.2
  try simp only [Act.put, List.setIfInBounds_toArray, List.set_cons_zero, List.set_cons_succ]
  refine wpAnyH_take (i := 15) (oi := ?o15r5) (v := .agg (List.map (Value.int .u8) S12).toArray) ?h15r5 (by kernel_rfl) ?f15r5 ?r15r5 (fun _ _ _ h => h) ?y15r5 (by assumption) ?t15r5
  case h15r5 => simp only [List.getElem?_toArray]; rfl
  case f15r5 => kernel_rfl
  case r15r5 => kernel_rfl
  case y15r5 => exact yieldsIf_load_mid (by rfl) 22 (.tmp 7) rfl b7 0 rfl (List.map (Value.int .u8) S12) _ (fun u hu => range_later hu A7.out.rng) Try.underlying22 rfl (by_cells hby7).2.2
  try simp only [Act.put, List.setIfInBounds_toArray, List.set_cons_zero, List.set_cons_succ]
  refine wpAnyH_ready (rs := [16]) (by kernel_rfl) (by simp) ?_
  refine AllReadyH.cons (o := ?o16r5) ?h16r5 (fun K hK => ?_) AllReadyH.nil
  case h16r5 => simp only [List.getElem?_toArray]; rfl
  go_simp
  refine (public_l S12 hby7 _).mono ?_
  rintro e c5_16 ⟨z39, rfl, hz39, Hz39, hb5_16⟩
  refine hK.out _ _ (hH.trans hb5_16) (fun hH' => ?_)
  clear hK K hH
  have hH := hH'
  clear hH'
  try simp only [List.setIfInBounds_toArray, List.set]
  clear hb5_16
  refine wpAnyH_ready (rs := [17]) (by kernel_rfl) (by simp) ?_
  refine AllReadyH.cons (o := ?o17r5) ?h17r5 (fun K hK => ?_) AllReadyH.nil
  case h17r5 => simp only [List.getElem?_toArray]; rfl
  go_simp
  refine (x_l S16 (lay 32 z39) hby9 (lay_by z39) _).mono ?_
  rintro e c5_17 ⟨z40, rfl, hz40, Hz40, hb5_17⟩
  refine hK.out _ _ (hH.trans hb5_17) (fun hH' => ?_)
  clear hK K hH
  have hH := hH'
  clear hH'
  try simp only [List.setIfInBounds_toArray, List.set]
  clear hb5_17
  refine wpAnyH_ready (rs := [18]) (by kernel_rfl) (by simp) ?_
  refine AllReadyH.cons (o := ?o18r5) ?h18r5 (fun K hK => ?_) AllReadyH.nil
  case h18r5 => simp only [List.getElem?_toArray]; rfl
  go_simp
  refine (x_l S14 (lay 32 z40) hby8 (lay_by z40) _).mono ?_
  rintro e c5_18 ⟨z41, rfl, hz41, Hz41, hb5_18⟩
  refine hK.out _ _ (hH.trans hb5_18) (fun hH' => ?_)
  clear hK K hH
  have hH := hH'
  clear hH'
  try simp only [List.setIfInBounds_toArray, List.set]
  clear hb5_18
  have hq42 : ∀ u, Sem.run Try.prog (binOp .eql 22 (.agg (List.map (Value.int .u8) (lay 32 v10)).toArray) (.agg (List.map (Value.int .u8) (lay 32 z41)).toArray)) u = .ok (.bool true) u := fun u => eql_same _ _ (lay_by _) (lay_by _) (by rw [Hv10.out, Hz41.out, Hz40.out, Hz39.out, H3.out.2]) u
  refine wpAnyH_take (i := 19) (oi := ?o19r5) (v := ?v19r5) ?h19r5 (by kernel_rfl) ?f19r5 ?r19r5 (fun _ _ _ h => h) (Or.inl ⟨?w19r5, ?y19r5⟩) (by assumption) ?t19r5
  case h19r5 => simp only [List.getElem?_toArray]; rfl
  case f19r5 => kernel_rfl
  case r19r5 => kernel_rfl
  case w19r5 => rfl
  case y19r5 => (intro u hu; (go_simp) <;> with_reducible rfl)
  try simp only [Act.put, List.setIfInBounds_toArray, List.set_cons_zero, List.set_cons_succ]
  refine wpAnyH_take (i := 20) (oi := ?o20r5) (v := ?v20r5) ?h20r5 (by kernel_rfl) ?f20r5 ?r20r5 (fun _ _ _ h => h) (Or.inl ⟨?w20r5, ?y20r5⟩) (by assumption) ?t20r5
  case h20r5 => simp only [List.getElem?_toArray]; rfl
  case f20r5 => kernel_rfl
  case r20r5 => kernel_rfl
  case w20r5 => rfl
  case y20r5 => (intro u hu; (go_simp) <;> with_reducible rfl)
  try simp only [Act.put, List.setIfInBounds_toArray, List.set_cons_zero, List.set_cons_succ]
  refine wpAnyH_take (i := 21) (oi := ?o21r5) (v := ?v21r5) ?h21r5 (by kernel_rfl) ?f21r5 ?r21r5 (fun _ _ _ h => h) (Or.inl ⟨?w21r5, ?y21r5⟩) (by assumption) ?t21r5
  case h21r5 => simp only [List.getElem?_toArray]; rfl
  case f21r5 => kernel_rfl
  case r21r5 => kernel_rfl
  case w21r5 => rfl
  case y21r5 => (intro u hu; (go_simp) <;> with_reducible rfl)
  try simp only [Act.put, List.setIfInBounds_toArray, List.set_cons_zero, List.set_cons_succ]
  refine wpAnyH_done (by kernel_rfl) ?_ _
  refine NoPanic.normal ?_
  go_wp2
  go_ret
  exact ⟨rfl, HB.out.trans (Below.mono hH HB.out.size)⟩
end Go.Proofs.Ytdfmbknofdkffaa
