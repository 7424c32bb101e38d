/-
  The walk of CurveAgrees: true for whatever is given. No statement of the seat is proved here.
-/
import Derived.Test.YtdfmbknofdkffaaCKnw
namespace Go.Proofs.Ytdfmbknofdkffaa
open Go.RowKit

set_option maxHeartbeats 8000000 in
theorem curveAgrees_walk (k l : List Int) (hk : By k) (hl : By l) (w : World) :
    Calls Try.prog 3 #[(.agg (List.map (Value.int .u8) k).toArray), (.agg (List.map (Value.int .u8) l).toArray)] w fun e w' => e = .returned (.bool true) ∧ Below w.heap.size w w' := by
  go_enter Try.func3, Try.ntmps3
  go_upto_region 1 with fail
  have HB : Hid (Below w.heap.size w ((w.alloc (.cells (List.map (Value.int .u8) k).toArray 22)).alloc (.cells (List.map (Value.int .u8) l).toArray 22))) := bel2 _ _ _
  have A2 : Hid (Arr ((w.alloc (.cells (List.map (Value.int .u8) k).toArray 22)).alloc (.cells (List.map (Value.int .u8) l).toArray 22)) (w.heap.size) (List.map (Value.int .u8) k)) := by
    have := (arr_box w k hk).later (bel1 _ (.cells (List.map (Value.int .u8) l).toArray 22))
    simpa [Hid] using this
  have A3 : Hid (Arr ((w.alloc (.cells (List.map (Value.int .u8) k).toArray 22)).alloc (.cells (List.map (Value.int .u8) l).toArray 22)) (w.heap.size + 1) (List.map (Value.int .u8) l)) := by
    have := arr_box (w.alloc (.cells (List.map (Value.int .u8) k).toArray 22)) l hl
    simpa [Hid] using this
  generalize (w.alloc (.cells (List.map (Value.int .u8) k).toArray 22)).alloc (.cells (List.map (Value.int .u8) l).toArray 22) = W0 at *
  generalize w.heap.size + 1 = q1 at *
  try simp only [Act.put]
  go_cut [5] from 7 (fun tv wc => ∃ (b : Nat) (v : Int), tv = .pointer (some ⟨b, 0, none⟩) ∧ El v ∧ Hid (v = xn (leN (cl k)) (num (lay 32 (xn (leN (cl l)) 9)))) ∧ Hid (Arr wc b (List.map (Value.int .u8) (lay 32 v))) ∧ W0.heap.size ≤ b ∧ Hid (Below W0.heap.size W0 wc))
  case first =>
    refine wp_region_noPanic ?_
    refine wp_region_held_drew (S := Ext W0) (by kernel_rfl) (Ext.refl _).drew (fun hH => ?_)
    change wpAnyH _ _ _ _ _ _ #[false, false, false, false, false, false] _ _
    generalize W0.drew = y0 at *
    refine wpAnyH_take (i := 0) (oi := ?o01a1) (v := .agg (List.map (Value.int .u8) k).toArray) ?h01a1 (by kernel_rfl) ?f01a1 ?r01a1 (fun _ _ _ h => h) ?y01a1 (by assumption) ?t01a1
    case h01a1 => simp only [List.getElem?_toArray]; rfl
    case f01a1 => kernel_rfl
    case r01a1 => kernel_rfl
    case y01a1 => exact yieldsIf_load_mid (by rfl) 22 (.tmp 2) rfl (w.heap.size) 0 rfl (List.map (Value.int .u8) k) _ (fun u hu => range_later hu A2.out.rng) Try.underlying22 rfl (by_cells hk).2.2
    try simp only [Act.put, List.setIfInBounds_toArray, List.set_cons_zero, List.set_cons_succ]
    refine wpAnyH_take (i := 1) (oi := ?o11a2) (v := .agg (List.map (Value.int .u8) l).toArray) ?h11a2 (by kernel_rfl) ?f11a2 ?r11a2 (fun _ _ _ h => h) ?y11a2 (by assumption) ?t11a2
    case h11a2 => simp only [List.getElem?_toArray]; rfl
    case f11a2 => kernel_rfl
    case r11a2 => kernel_rfl
    case y11a2 => exact yieldsIf_load_mid (by rfl) 22 (.tmp 3) rfl q1 0 rfl (List.map (Value.int .u8) l) _ (fun u hu => range_later hu A3.out.rng) Try.underlying22 rfl (by_cells hl).2.2
    try simp only [Act.put, List.setIfInBounds_toArray, List.set_cons_zero, List.set_cons_succ]
    refine wpAnyH_ready (rs := [2, 4]) (by kernel_rfl) (by simp) ?_
    refine AllReadyH.cons (o := ?o21a3) ?h21a3 (fun K hK => ?c21a3) (AllReadyH.cons (o := ?o41a3) ?h41a3 (fun K hK => ?c41a3) AllReadyH.nil)
    case h21a3 => simp only [List.getElem?_toArray]; rfl
    case h41a3 => simp only [List.getElem?_toArray]; rfl
    case c21a3 =>
      go_simp
      refine (public_l l hl _).mono ?_
      rintro e y1a4 ⟨z9, rfl, hz9, Hz9, hb1a4⟩
      refine hK.out _ _ (hH.trans hb1a4) (fun hH' => ?_)
      clear hK K hH
      have hH := hH'
      clear hH'
      try simp only [List.setIfInBounds_toArray, List.set]
      clear hb1a4
      refine wpAnyH_ready (rs := [3, 4]) (by kernel_rfl) (by simp) ?_
      refine AllReadyH.cons (o := ?o31a5) ?h31a5 (fun K hK => ?c31a5) (AllReadyH.cons (o := ?o41a5) ?h41a5 (fun K hK => ?c41a5) AllReadyH.nil)
      case h31a5 => simp only [List.getElem?_toArray]; rfl
      case h41a5 => simp only [List.getElem?_toArray]; rfl
      case c31a5 =>
        go_simp
        refine (x_l k (lay 32 z9) hk (lay_by z9) _).mono ?_
        rintro e y1a6 ⟨z10, rfl, hz10, Hz10, hb1a6⟩
        refine hK.out _ _ (hH.trans hb1a6) (fun hH' => ?_)
        clear hK K hH
        have hH := hH'
        clear hH'
        try simp only [List.setIfInBounds_toArray, List.set]
        clear hb1a6
        refine wpAnyH_ready (rs := [4]) (by kernel_rfl) (by simp) ?_
        refine AllReadyH.cons (o := ?o41a7) ?h41a7 (fun K hK => ?_) AllReadyH.nil
        case h41a7 => simp only [List.getElem?_toArray]; rfl
        go_simp
        have hLw : W0.heap.size ≤ y1a6.heap.size := hH.size
        refine hK.out _ _ (hH.trans (bel1 _ _)) (fun hH' => ?_)
        clear hK K hH
        have hH := hH'
        clear hH'
        try simp only [List.setIfInBounds_toArray, List.set]
        have hD : Hid ((y1a6.alloc (.cells #[.int .u8 0, .int .u8 0, .int .u8 0, .int .u8 0, .int .u8 0, .int .u8 0, .int .u8 0, .int .u8 0, .int .u8 0, .int .u8 0, .int .u8 0, .int .u8 0, .int .u8 0, .int .u8 0, .int .u8 0, .int .u8 0, .int .u8 0, .int .u8 0, .int .u8 0, .int .u8 0, .int .u8 0, .int .u8 0, .int .u8 0, .int .u8 0, .int .u8 0, .int .u8 0, .int .u8 0, .int .u8 0, .int .u8 0, .int .u8 0, .int .u8 0, .int .u8 0] 22)).there y1a6.heap.size 0 32) := there_new y1a6 32 #[.int .u8 0, .int .u8 0, .int .u8 0, .int .u8 0, .int .u8 0, .int .u8 0, .int .u8 0, .int .u8 0, .int .u8 0, .int .u8 0, .int .u8 0, .int .u8 0, .int .u8 0, .int .u8 0, .int .u8 0, .int .u8 0, .int .u8 0, .int .u8 0, .int .u8 0, .int .u8 0, .int .u8 0, .int .u8 0, .int .u8 0, .int .u8 0, .int .u8 0, .int .u8 0, .int .u8 0, .int .u8 0, .int .u8 0, .int .u8 0, .int .u8 0, .int .u8 0] rfl 22
        generalize y1a6.alloc (.cells #[.int .u8 0, .int .u8 0, .int .u8 0, .int .u8 0, .int .u8 0, .int .u8 0, .int .u8 0, .int .u8 0, .int .u8 0, .int .u8 0, .int .u8 0, .int .u8 0, .int .u8 0, .int .u8 0, .int .u8 0, .int .u8 0, .int .u8 0, .int .u8 0, .int .u8 0, .int .u8 0, .int .u8 0, .int .u8 0, .int .u8 0, .int .u8 0, .int .u8 0, .int .u8 0, .int .u8 0, .int .u8 0, .int .u8 0, .int .u8 0, .int .u8 0, .int .u8 0] 22) = x1a8 at *
        generalize y1a6.heap.size = bw at *
        obtain ⟨hlenw, honew, hiw⟩ := by_cells (lay_by z10)
        have HPw := (by unfold Hid at *; rw [Hz10, Hz9] : Hid (z10 = xn (leN (cl k)) (num (lay 32 (xn (leN (cl l)) 9)))))
        generalize hcsw : (List.map (Value.int .u8) (lay 32 z10)) = csw at *
        refine wpAnyH_ready (rs := [5]) (by kernel_rfl) (by simp) ?_
        refine AllReadyH.cons (o := ?o1a9) ?h1a9 (fun K hK => ?_) AllReadyH.nil
        case h1a9 => simp only [List.getElem?_toArray]; rfl
        refine wp_store_mid 22 (.tmp 5) (.tmp 10) rfl bw 0 csw.toArray rfl rfl (by simpa [hlenw] using hD.out) (by simpa using hiw) (all_oneCell_toArray honew) ?_
        refine hK.out _ _ (below_setCells _ (by omega) _ _ _ hH) (fun hH' => ?_)
        clear hK K hH
        have hH := hH'
        clear hH'
        try simp only [List.setIfInBounds_toArray, List.set]
        refine wpAnyH_done (by kernel_rfl) ?_ _
        refine NoPanic.normal ?_
        go_wp2_with fail
        go_meet
        case rel => exact ⟨bw, z10, rfl, hz10, HPw, by rw [hcsw]; exact ⟨World.rangeAt_setCells_same _ _ _ _ (by rw [hlenw]; exact hD.out), World.there_setCells hD.out _ _ _⟩, hLw, hH⟩
      case c41a5 =>
        go_simp
        have hLw : W0.heap.size ≤ y1a4.heap.size := hH.size
        refine hK.out _ _ (hH.trans (bel1 _ _)) (fun hH' => ?_)
        clear hK K hH
        have hH := hH'
        clear hH'
        try simp only [List.setIfInBounds_toArray, List.set]
        have hD : Hid ((y1a4.alloc (.cells #[.int .u8 0, .int .u8 0, .int .u8 0, .int .u8 0, .int .u8 0, .int .u8 0, .int .u8 0, .int .u8 0, .int .u8 0, .int .u8 0, .int .u8 0, .int .u8 0, .int .u8 0, .int .u8 0, .int .u8 0, .int .u8 0, .int .u8 0, .int .u8 0, .int .u8 0, .int .u8 0, .int .u8 0, .int .u8 0, .int .u8 0, .int .u8 0, .int .u8 0, .int .u8 0, .int .u8 0, .int .u8 0, .int .u8 0, .int .u8 0, .int .u8 0, .int .u8 0] 22)).there y1a4.heap.size 0 32) := there_new y1a4 32 #[.int .u8 0, .int .u8 0, .int .u8 0, .int .u8 0, .int .u8 0, .int .u8 0, .int .u8 0, .int .u8 0, .int .u8 0, .int .u8 0, .int .u8 0, .int .u8 0, .int .u8 0, .int .u8 0, .int .u8 0, .int .u8 0, .int .u8 0, .int .u8 0, .int .u8 0, .int .u8 0, .int .u8 0, .int .u8 0, .int .u8 0, .int .u8 0, .int .u8 0, .int .u8 0, .int .u8 0, .int .u8 0, .int .u8 0, .int .u8 0, .int .u8 0, .int .u8 0] rfl 22
        generalize y1a4.alloc (.cells #[.int .u8 0, .int .u8 0, .int .u8 0, .int .u8 0, .int .u8 0, .int .u8 0, .int .u8 0, .int .u8 0, .int .u8 0, .int .u8 0, .int .u8 0, .int .u8 0, .int .u8 0, .int .u8 0, .int .u8 0, .int .u8 0, .int .u8 0, .int .u8 0, .int .u8 0, .int .u8 0, .int .u8 0, .int .u8 0, .int .u8 0, .int .u8 0, .int .u8 0, .int .u8 0, .int .u8 0, .int .u8 0, .int .u8 0, .int .u8 0, .int .u8 0, .int .u8 0] 22) = x1a10 at *
        generalize y1a4.heap.size = bw at *
        refine wpAnyH_ready (rs := [3]) (by kernel_rfl) (by simp) ?_
        refine AllReadyH.cons (o := ?o31a11) ?h31a11 (fun K hK => ?_) AllReadyH.nil
        case h31a11 => simp only [List.getElem?_toArray]; rfl
        go_simp
        refine (x_l k (lay 32 z9) hk (lay_by z9) _).mono ?_
        rintro e y1a12 ⟨z10, rfl, hz10, Hz10, hb1a12⟩
        refine hK.out _ _ (hH.trans hb1a12) (fun hH' => ?_)
        clear hK K hH
        have hH := hH'
        clear hH'
        try simp only [List.setIfInBounds_toArray, List.set]
        replace hD : Hid (y1a12.there bw 0 32) := there_later hb1a12 hD.out
        clear hb1a12
        obtain ⟨hlenw, honew, hiw⟩ := by_cells (lay_by z10)
        have HPw := (by unfold Hid at *; rw [Hz10, Hz9] : Hid (z10 = xn (leN (cl k)) (num (lay 32 (xn (leN (cl l)) 9)))))
        generalize hcsw : (List.map (Value.int .u8) (lay 32 z10)) = csw at *
        refine wpAnyH_ready (rs := [5]) (by kernel_rfl) (by simp) ?_
        refine AllReadyH.cons (o := ?o1a13) ?h1a13 (fun K hK => ?_) AllReadyH.nil
        case h1a13 => simp only [List.getElem?_toArray]; rfl
        refine wp_store_mid 22 (.tmp 5) (.tmp 10) rfl bw 0 csw.toArray rfl rfl (by simpa [hlenw] using hD.out) (by simpa using hiw) (all_oneCell_toArray honew) ?_
        refine hK.out _ _ (below_setCells _ (by omega) _ _ _ hH) (fun hH' => ?_)
        clear hK K hH
        have hH := hH'
        clear hH'
        try simp only [List.setIfInBounds_toArray, List.set]
        refine wpAnyH_done (by kernel_rfl) ?_ _
        refine NoPanic.normal ?_
        go_wp2_with fail
        go_meet
        case rel => exact ⟨bw, z10, rfl, hz10, HPw, by rw [hcsw]; exact ⟨World.rangeAt_setCells_same _ _ _ _ (by rw [hlenw]; exact hD.out), World.there_setCells hD.out _ _ _⟩, hLw, hH⟩
    case c41a3 =>
      go_simp
      have hLw : W0.heap.size ≤ y0.heap.size := hH.size
      refine hK.out _ _ (hH.trans (bel1 _ _)) (fun hH' => ?_)
      clear hK K hH
      have hH := hH'
      clear hH'
      try simp only [List.setIfInBounds_toArray, List.set]
      have hD : Hid ((y0.alloc (.cells #[.int .u8 0, .int .u8 0, .int .u8 0, .int .u8 0, .int .u8 0, .int .u8 0, .int .u8 0, .int .u8 0, .int .u8 0, .int .u8 0, .int .u8 0, .int .u8 0, .int .u8 0, .int .u8 0, .int .u8 0, .int .u8 0, .int .u8 0, .int .u8 0, .int .u8 0, .int .u8 0, .int .u8 0, .int .u8 0, .int .u8 0, .int .u8 0, .int .u8 0, .int .u8 0, .int .u8 0, .int .u8 0, .int .u8 0, .int .u8 0, .int .u8 0, .int .u8 0] 22)).there y0.heap.size 0 32) := there_new y0 32 #[.int .u8 0, .int .u8 0, .int .u8 0, .int .u8 0, .int .u8 0, .int .u8 0, .int .u8 0, .int .u8 0, .int .u8 0, .int .u8 0, .int .u8 0, .int .u8 0, .int .u8 0, .int .u8 0, .int .u8 0, .int .u8 0, .int .u8 0, .int .u8 0, .int .u8 0, .int .u8 0, .int .u8 0, .int .u8 0, .int .u8 0, .int .u8 0, .int .u8 0, .int .u8 0, .int .u8 0, .int .u8 0, .int .u8 0, .int .u8 0, .int .u8 0, .int .u8 0] rfl 22
      generalize y0.alloc (.cells #[.int .u8 0, .int .u8 0, .int .u8 0, .int .u8 0, .int .u8 0, .int .u8 0, .int .u8 0, .int .u8 0, .int .u8 0, .int .u8 0, .int .u8 0, .int .u8 0, .int .u8 0, .int .u8 0, .int .u8 0, .int .u8 0, .int .u8 0, .int .u8 0, .int .u8 0, .int .u8 0, .int .u8 0, .int .u8 0, .int .u8 0, .int .u8 0, .int .u8 0, .int .u8 0, .int .u8 0, .int .u8 0, .int .u8 0, .int .u8 0, .int .u8 0, .int .u8 0] 22) = x1a14 at *
      generalize y0.heap.size = bw at *
      refine wpAnyH_ready (rs := [2]) (by kernel_rfl) (by simp) ?_
      refine AllReadyH.cons (o := ?o21a15) ?h21a15 (fun K hK => ?_) AllReadyH.nil
      case h21a15 => simp only [List.getElem?_toArray]; rfl
      go_simp
      refine (public_l l hl _).mono ?_
      rintro e y1a16 ⟨z9, rfl, hz9, Hz9, hb1a16⟩
      refine hK.out _ _ (hH.trans hb1a16) (fun hH' => ?_)
      clear hK K hH
      have hH := hH'
      clear hH'
      try simp only [List.setIfInBounds_toArray, List.set]
      replace hD : Hid (y1a16.there bw 0 32) := there_later hb1a16 hD.out
      clear hb1a16
      refine wpAnyH_ready (rs := [3]) (by kernel_rfl) (by simp) ?_
      refine AllReadyH.cons (o := ?o31a17) ?h31a17 (fun K hK => ?_) AllReadyH.nil
      case h31a17 => simp only [List.getElem?_toArray]; rfl
      go_simp
      refine (x_l k (lay 32 z9) hk (lay_by z9) _).mono ?_
      rintro e y1a18 ⟨z10, rfl, hz10, Hz10, hb1a18⟩
      refine hK.out _ _ (hH.trans hb1a18) (fun hH' => ?_)
      clear hK K hH
      have hH := hH'
      clear hH'
      try simp only [List.setIfInBounds_toArray, List.set]
      replace hD : Hid (y1a18.there bw 0 32) := there_later hb1a18 hD.out
      clear hb1a18
      obtain ⟨hlenw, honew, hiw⟩ := by_cells (lay_by z10)
      have HPw := (by unfold Hid at *; rw [Hz10, Hz9] : Hid (z10 = xn (leN (cl k)) (num (lay 32 (xn (leN (cl l)) 9)))))
      generalize hcsw : (List.map (Value.int .u8) (lay 32 z10)) = csw at *
      refine wpAnyH_ready (rs := [5]) (by kernel_rfl) (by simp) ?_
      refine AllReadyH.cons (o := ?o1a19) ?h1a19 (fun K hK => ?_) AllReadyH.nil
      case h1a19 => simp only [List.getElem?_toArray]; rfl
      refine wp_store_mid 22 (.tmp 5) (.tmp 10) rfl bw 0 csw.toArray rfl rfl (by simpa [hlenw] using hD.out) (by simpa using hiw) (all_oneCell_toArray honew) ?_
      refine hK.out _ _ (below_setCells _ (by omega) _ _ _ hH) (fun hH' => ?_)
      clear hK K hH
      have hH := hH'
      clear hH'
      try simp only [List.setIfInBounds_toArray, List.set]
      refine wpAnyH_done (by kernel_rfl) ?_ _
      refine NoPanic.normal ?_
      go_wp2_with fail
      go_meet
      case rel => exact ⟨bw, z10, rfl, hz10, HPw, by rw [hcsw]; exact ⟨World.rangeAt_setCells_same _ _ _ _ (by rw [hlenw]; exact hD.out), World.there_setCells hD.out _ _ _⟩, hLw, hH⟩
  obtain ⟨b5, v5, rfl, hv5, Hv5, A5, hge5, hX⟩ := hcut
  generalize wc = W5 at *
  replace A2 : Hid (Arr W5 (w.heap.size) (List.map (Value.int .u8) k)) := A2.out.later hX.out
  replace A3 : Hid (Arr W5 q1 (List.map (Value.int .u8) l)) := A3.out.later hX.out
  replace HB : Hid (Below w.heap.size w W5) := HB.out.trans (Below.mono hX.out HB.out.size)
  clear hX
  go_upto_region 2 with fail
  try simp only [Act.put]
  go_cut [6] from 7 (fun tv wc => ∃ (b : Nat) (v : Int), tv = .pointer (some ⟨b, 0, none⟩) ∧ El v ∧ Hid (v = xn (leN (cl l)) (num (lay 32 (xn (leN (cl k)) 9)))) ∧ Hid (Arr wc b (List.map (Value.int .u8) (lay 32 v))) ∧ W5.heap.size ≤ b ∧ Hid (Below W5.heap.size W5 wc))
  case first =>
    refine wp_region_noPanic ?_
    refine wp_region_held_drew (S := Ext W5) (by kernel_rfl) (Ext.refl _).drew (fun hH => ?_)
    change wpAnyH _ _ _ _ _ _ #[false, false, false, false, false, false] _ _
    generalize W5.drew = y0 at *
    refine wpAnyH_take (i := 0) (oi := ?o02a1) (v := .agg (List.map (Value.int .u8) l).toArray) ?h02a1 (by kernel_rfl) ?f02a1 ?r02a1 (fun _ _ _ h => h) ?y02a1 (by assumption) ?t02a1
    case h02a1 => simp only [List.getElem?_toArray]; rfl
    case f02a1 => kernel_rfl
    case r02a1 => kernel_rfl
    case y02a1 => exact yieldsIf_load_mid (by rfl) 22 (.tmp 3) rfl q1 0 rfl (List.map (Value.int .u8) l) _ (fun u hu => range_later hu A3.out.rng) Try.underlying22 rfl (by_cells hl).2.2
    try simp only [Act.put, List.setIfInBounds_toArray, List.set_cons_zero, List.set_cons_succ]
    refine wpAnyH_take (i := 1) (oi := ?o12a2) (v := .agg (List.map (Value.int .u8) k).toArray) ?h12a2 (by kernel_rfl) ?f12a2 ?r12a2 (fun _ _ _ h => h) ?y12a2 (by assumption) ?t12a2
    case h12a2 => simp only [List.getElem?_toArray]; rfl
    case f12a2 => kernel_rfl
    case r12a2 => kernel_rfl
    case y12a2 => exact yieldsIf_load_mid (by rfl) 22 (.tmp 2) rfl (w.heap.size) 0 rfl (List.map (Value.int .u8) k) _ (fun u hu => range_later hu A2.out.rng) Try.underlying22 rfl (by_cells hk).2.2
    try simp only [Act.put, List.setIfInBounds_toArray, List.set_cons_zero, List.set_cons_succ]
    refine wpAnyH_ready (rs := [2, 4]) (by kernel_rfl) (by simp) ?_
    refine AllReadyH.cons (o := ?o22a3) ?h22a3 (fun K hK => ?c22a3) (AllReadyH.cons (o := ?o42a3) ?h42a3 (fun K hK => ?c42a3) AllReadyH.nil)
    case h22a3 => simp only [List.getElem?_toArray]; rfl
    case h42a3 => simp only [List.getElem?_toArray]; rfl
    case c22a3 =>
      go_simp
      refine (public_l k hk _).mono ?_
      rintro e y2a4 ⟨z13, rfl, hz13, Hz13, hb2a4⟩
      refine hK.out _ _ (hH.trans hb2a4) (fun hH' => ?_)
      clear hK K hH
      have hH := hH'
      clear hH'
      try simp only [List.setIfInBounds_toArray, List.set]
      clear hb2a4
      refine wpAnyH_ready (rs := [3, 4]) (by kernel_rfl) (by simp) ?_
      refine AllReadyH.cons (o := ?o32a5) ?h32a5 (fun K hK => ?c32a5) (AllReadyH.cons (o := ?o42a5) ?h42a5 (fun K hK => ?c42a5) AllReadyH.nil)
      case h32a5 => simp only [List.getElem?_toArray]; rfl
      case h42a5 => simp only [List.getElem?_toArray]; rfl
      case c32a5 =>
        go_simp
        refine (x_l l (lay 32 z13) hl (lay_by z13) _).mono ?_
        rintro e y2a6 ⟨z14, rfl, hz14, Hz14, hb2a6⟩
        refine hK.out _ _ (hH.trans hb2a6) (fun hH' => ?_)
        clear hK K hH
        have hH := hH'
        clear hH'
        try simp only [List.setIfInBounds_toArray, List.set]
        clear hb2a6
        refine wpAnyH_ready (rs := [4]) (by kernel_rfl) (by simp) ?_
        refine AllReadyH.cons (o := ?o42a7) ?h42a7 (fun K hK => ?_) AllReadyH.nil
        case h42a7 => simp only [List.getElem?_toArray]; rfl
        go_simp
        have hLw : W5.heap.size ≤ y2a6.heap.size := hH.size
        refine hK.out _ _ (hH.trans (bel1 _ _)) (fun hH' => ?_)
        clear hK K hH
        have hH := hH'
        clear hH'
        try simp only [List.setIfInBounds_toArray, List.set]
        have hD : Hid ((y2a6.alloc (.cells #[.int .u8 0, .int .u8 0, .int .u8 0, .int .u8 0, .int .u8 0, .int .u8 0, .int .u8 0, .int .u8 0, .int .u8 0, .int .u8 0, .int .u8 0, .int .u8 0, .int .u8 0, .int .u8 0, .int .u8 0, .int .u8 0, .int .u8 0, .int .u8 0, .int .u8 0, .int .u8 0, .int .u8 0, .int .u8 0, .int .u8 0, .int .u8 0, .int .u8 0, .int .u8 0, .int .u8 0, .int .u8 0, .int .u8 0, .int .u8 0, .int .u8 0, .int .u8 0] 22)).there y2a6.heap.size 0 32) := there_new y2a6 32 #[.int .u8 0, .int .u8 0, .int .u8 0, .int .u8 0, .int .u8 0, .int .u8 0, .int .u8 0, .int .u8 0, .int .u8 0, .int .u8 0, .int .u8 0, .int .u8 0, .int .u8 0, .int .u8 0, .int .u8 0, .int .u8 0, .int .u8 0, .int .u8 0, .int .u8 0, .int .u8 0, .int .u8 0, .int .u8 0, .int .u8 0, .int .u8 0, .int .u8 0, .int .u8 0, .int .u8 0, .int .u8 0, .int .u8 0, .int .u8 0, .int .u8 0, .int .u8 0] rfl 22
        generalize y2a6.alloc (.cells #[.int .u8 0, .int .u8 0, .int .u8 0, .int .u8 0, .int .u8 0, .int .u8 0, .int .u8 0, .int .u8 0, .int .u8 0, .int .u8 0, .int .u8 0, .int .u8 0, .int .u8 0, .int .u8 0, .int .u8 0, .int .u8 0, .int .u8 0, .int .u8 0, .int .u8 0, .int .u8 0, .int .u8 0, .int .u8 0, .int .u8 0, .int .u8 0, .int .u8 0, .int .u8 0, .int .u8 0, .int .u8 0, .int .u8 0, .int .u8 0, .int .u8 0, .int .u8 0] 22) = x2a8 at *
        generalize y2a6.heap.size = bw at *
        obtain ⟨hlenw, honew, hiw⟩ := by_cells (lay_by z14)
        have HPw := (by unfold Hid at *; rw [Hz14, Hz13] : Hid (z14 = xn (leN (cl l)) (num (lay 32 (xn (leN (cl k)) 9)))))
        generalize hcsw : (List.map (Value.int .u8) (lay 32 z14)) = csw at *
        refine wpAnyH_ready (rs := [5]) (by kernel_rfl) (by simp) ?_
        refine AllReadyH.cons (o := ?o2a9) ?h2a9 (fun K hK => ?_) AllReadyH.nil
        case h2a9 => simp only [List.getElem?_toArray]; rfl
        refine wp_store_mid 22 (.tmp 6) (.tmp 14) rfl bw 0 csw.toArray rfl rfl (by simpa [hlenw] using hD.out) (by simpa using hiw) (all_oneCell_toArray honew) ?_
        refine hK.out _ _ (below_setCells _ (by omega) _ _ _ hH) (fun hH' => ?_)
        clear hK K hH
        have hH := hH'
        clear hH'
        try simp only [List.setIfInBounds_toArray, List.set]
        refine wpAnyH_done (by kernel_rfl) ?_ _
        refine NoPanic.normal ?_
        go_wp2_with fail
        go_meet
        case rel => exact ⟨bw, z14, rfl, hz14, HPw, by rw [hcsw]; exact ⟨World.rangeAt_setCells_same _ _ _ _ (by rw [hlenw]; exact hD.out), World.there_setCells hD.out _ _ _⟩, hLw, hH⟩
      case c42a5 =>
        go_simp
        have hLw : W5.heap.size ≤ y2a4.heap.size := hH.size
        refine hK.out _ _ (hH.trans (bel1 _ _)) (fun hH' => ?_)
        clear hK K hH
        have hH := hH'
        clear hH'
        try simp only [List.setIfInBounds_toArray, List.set]
        have hD : Hid ((y2a4.alloc (.cells #[.int .u8 0, .int .u8 0, .int .u8 0, .int .u8 0, .int .u8 0, .int .u8 0, .int .u8 0, .int .u8 0, .int .u8 0, .int .u8 0, .int .u8 0, .int .u8 0, .int .u8 0, .int .u8 0, .int .u8 0, .int .u8 0, .int .u8 0, .int .u8 0, .int .u8 0, .int .u8 0, .int .u8 0, .int .u8 0, .int .u8 0, .int .u8 0, .int .u8 0, .int .u8 0, .int .u8 0, .int .u8 0, .int .u8 0, .int .u8 0, .int .u8 0, .int .u8 0] 22)).there y2a4.heap.size 0 32) := there_new y2a4 32 #[.int .u8 0, .int .u8 0, .int .u8 0, .int .u8 0, .int .u8 0, .int .u8 0, .int .u8 0, .int .u8 0, .int .u8 0, .int .u8 0, .int .u8 0, .int .u8 0, .int .u8 0, .int .u8 0, .int .u8 0, .int .u8 0, .int .u8 0, .int .u8 0, .int .u8 0, .int .u8 0, .int .u8 0, .int .u8 0, .int .u8 0, .int .u8 0, .int .u8 0, .int .u8 0, .int .u8 0, .int .u8 0, .int .u8 0, .int .u8 0, .int .u8 0, .int .u8 0] rfl 22
        generalize y2a4.alloc (.cells #[.int .u8 0, .int .u8 0, .int .u8 0, .int .u8 0, .int .u8 0, .int .u8 0, .int .u8 0, .int .u8 0, .int .u8 0, .int .u8 0, .int .u8 0, .int .u8 0, .int .u8 0, .int .u8 0, .int .u8 0, .int .u8 0, .int .u8 0, .int .u8 0, .int .u8 0, .int .u8 0, .int .u8 0, .int .u8 0, .int .u8 0, .int .u8 0, .int .u8 0, .int .u8 0, .int .u8 0, .int .u8 0, .int .u8 0, .int .u8 0, .int .u8 0, .int .u8 0] 22) = x2a10 at *
        generalize y2a4.heap.size = bw at *
        refine wpAnyH_ready (rs := [3]) (by kernel_rfl) (by simp) ?_
        refine AllReadyH.cons (o := ?o32a11) ?h32a11 (fun K hK => ?_) AllReadyH.nil
        case h32a11 => simp only [List.getElem?_toArray]; rfl
        go_simp
        refine (x_l l (lay 32 z13) hl (lay_by z13) _).mono ?_
        rintro e y2a12 ⟨z14, rfl, hz14, Hz14, hb2a12⟩
        refine hK.out _ _ (hH.trans hb2a12) (fun hH' => ?_)
        clear hK K hH
        have hH := hH'
        clear hH'
        try simp only [List.setIfInBounds_toArray, List.set]
        replace hD : Hid (y2a12.there bw 0 32) := there_later hb2a12 hD.out
        clear hb2a12
        obtain ⟨hlenw, honew, hiw⟩ := by_cells (lay_by z14)
        have HPw := (by unfold Hid at *; rw [Hz14, Hz13] : Hid (z14 = xn (leN (cl l)) (num (lay 32 (xn (leN (cl k)) 9)))))
        generalize hcsw : (List.map (Value.int .u8) (lay 32 z14)) = csw at *
        refine wpAnyH_ready (rs := [5]) (by kernel_rfl) (by simp) ?_
        refine AllReadyH.cons (o := ?o2a13) ?h2a13 (fun K hK => ?_) AllReadyH.nil
        case h2a13 => simp only [List.getElem?_toArray]; rfl
        refine wp_store_mid 22 (.tmp 6) (.tmp 14) rfl bw 0 csw.toArray rfl rfl (by simpa [hlenw] using hD.out) (by simpa using hiw) (all_oneCell_toArray honew) ?_
        refine hK.out _ _ (below_setCells _ (by omega) _ _ _ hH) (fun hH' => ?_)
        clear hK K hH
        have hH := hH'
        clear hH'
        try simp only [List.setIfInBounds_toArray, List.set]
        refine wpAnyH_done (by kernel_rfl) ?_ _
        refine NoPanic.normal ?_
        go_wp2_with fail
        go_meet
        case rel => exact ⟨bw, z14, rfl, hz14, HPw, by rw [hcsw]; exact ⟨World.rangeAt_setCells_same _ _ _ _ (by rw [hlenw]; exact hD.out), World.there_setCells hD.out _ _ _⟩, hLw, hH⟩
    case c42a3 =>
      go_simp
      have hLw : W5.heap.size ≤ y0.heap.size := hH.size
      refine hK.out _ _ (hH.trans (bel1 _ _)) (fun hH' => ?_)
      clear hK K hH
      have hH := hH'
      clear hH'
      try simp only [List.setIfInBounds_toArray, List.set]
      have hD : Hid ((y0.alloc (.cells #[.int .u8 0, .int .u8 0, .int .u8 0, .int .u8 0, .int .u8 0, .int .u8 0, .int .u8 0, .int .u8 0, .int .u8 0, .int .u8 0, .int .u8 0, .int .u8 0, .int .u8 0, .int .u8 0, .int .u8 0, .int .u8 0, .int .u8 0, .int .u8 0, .int .u8 0, .int .u8 0, .int .u8 0, .int .u8 0, .int .u8 0, .int .u8 0, .int .u8 0, .int .u8 0, .int .u8 0, .int .u8 0, .int .u8 0, .int .u8 0, .int .u8 0, .int .u8 0] 22)).there y0.heap.size 0 32) := there_new y0 32 #[.int .u8 0, .int .u8 0, .int .u8 0, .int .u8 0, .int .u8 0, .int .u8 0, .int .u8 0, .int .u8 0, .int .u8 0, .int .u8 0, .int .u8 0, .int .u8 0, .int .u8 0, .int .u8 0, .int .u8 0, .int .u8 0, .int .u8 0, .int .u8 0, .int .u8 0, .int .u8 0, .int .u8 0, .int .u8 0, .int .u8 0, .int .u8 0, .int .u8 0, .int .u8 0, .int .u8 0, .int .u8 0, .int .u8 0, .int .u8 0, .int .u8 0, .int .u8 0] rfl 22
      generalize y0.alloc (.cells #[.int .u8 0, .int .u8 0, .int .u8 0, .int .u8 0, .int .u8 0, .int .u8 0, .int .u8 0, .int .u8 0, .int .u8 0, .int .u8 0, .int .u8 0, .int .u8 0, .int .u8 0, .int .u8 0, .int .u8 0, .int .u8 0, .int .u8 0, .int .u8 0, .int .u8 0, .int .u8 0, .int .u8 0, .int .u8 0, .int .u8 0, .int .u8 0, .int .u8 0, .int .u8 0, .int .u8 0, .int .u8 0, .int .u8 0, .int .u8 0, .int .u8 0, .int .u8 0] 22) = x2a14 at *
      generalize y0.heap.size = bw at *
      refine wpAnyH_ready (rs := [2]) (by kernel_rfl) (by simp) ?_
      refine AllReadyH.cons (o := ?o22a15) ?h22a15 (fun K hK => ?_) AllReadyH.nil
      case h22a15 => simp only [List.getElem?_toArray]; rfl
      go_simp
      refine (public_l k hk _).mono ?_
      rintro e y2a16 ⟨z13, rfl, hz13, Hz13, hb2a16⟩
      refine hK.out _ _ (hH.trans hb2a16) (fun hH' => ?_)
      clear hK K hH
      have hH := hH'
      clear hH'
      try simp only [List.setIfInBounds_toArray, List.set]
      replace hD : Hid (y2a16.there bw 0 32) := there_later hb2a16 hD.out
      clear hb2a16
      refine wpAnyH_ready (rs := [3]) (by kernel_rfl) (by simp) ?_
      refine AllReadyH.cons (o := ?o32a17) ?h32a17 (fun K hK => ?_) AllReadyH.nil
      case h32a17 => simp only [List.getElem?_toArray]; rfl
      go_simp
      refine (x_l l (lay 32 z13) hl (lay_by z13) _).mono ?_
      rintro e y2a18 ⟨z14, rfl, hz14, Hz14, hb2a18⟩
      refine hK.out _ _ (hH.trans hb2a18) (fun hH' => ?_)
      clear hK K hH
      have hH := hH'
      clear hH'
      try simp only [List.setIfInBounds_toArray, List.set]
      replace hD : Hid (y2a18.there bw 0 32) := there_later hb2a18 hD.out
      clear hb2a18
      obtain ⟨hlenw, honew, hiw⟩ := by_cells (lay_by z14)
      have HPw := (by unfold Hid at *; rw [Hz14, Hz13] : Hid (z14 = xn (leN (cl l)) (num (lay 32 (xn (leN (cl k)) 9)))))
      generalize hcsw : (List.map (Value.int .u8) (lay 32 z14)) = csw at *
      refine wpAnyH_ready (rs := [5]) (by kernel_rfl) (by simp) ?_
      refine AllReadyH.cons (o := ?o2a19) ?h2a19 (fun K hK => ?_) AllReadyH.nil
      case h2a19 => simp only [List.getElem?_toArray]; rfl
      refine wp_store_mid 22 (.tmp 6) (.tmp 14) rfl bw 0 csw.toArray rfl rfl (by simpa [hlenw] using hD.out) (by simpa using hiw) (all_oneCell_toArray honew) ?_
      refine hK.out _ _ (below_setCells _ (by omega) _ _ _ hH) (fun hH' => ?_)
      clear hK K hH
      have hH := hH'
      clear hH'
      try simp only [List.setIfInBounds_toArray, List.set]
      refine wpAnyH_done (by kernel_rfl) ?_ _
      refine NoPanic.normal ?_
      go_wp2_with fail
      go_meet
      case rel => exact ⟨bw, z14, rfl, hz14, HPw, by rw [hcsw]; exact ⟨World.rangeAt_setCells_same _ _ _ _ (by rw [hlenw]; exact hD.out), World.there_setCells hD.out _ _ _⟩, hLw, hH⟩
  obtain ⟨b6, v6, rfl, hv6, Hv6, A6, hge6, hX⟩ := hcut
  generalize wc = W6 at *
  replace A2 : Hid (Arr W6 (w.heap.size) (List.map (Value.int .u8) k)) := A2.out.later hX.out
  replace A3 : Hid (Arr W6 q1 (List.map (Value.int .u8) l)) := A3.out.later hX.out
  replace A5 : Hid (Arr W6 b5 (List.map (Value.int .u8) (lay 32 v5))) := A5.out.later hX.out
  replace HB : Hid (Below w.heap.size w W6) := HB.out.trans (Below.mono hX.out HB.out.size)
  clear hX
  go_upto_region 3 with fail
  have HE : Hid (v5 = v6) := by unfold Hid; rw [Hv5.out, Hv6.out]; exact agree_l hk hl
  go_wp2_with fail
  refine (known_any _).mono ?_
  rintro e w7 ⟨rfl, hb⟩
  replace A2 : Hid (Arr w7 (w.heap.size) (List.map (Value.int .u8) k)) := A2.out.later hb
  replace A3 : Hid (Arr w7 q1 (List.map (Value.int .u8) l)) := A3.out.later hb
  replace A5 : Hid (Arr w7 b5 (List.map (Value.int .u8) (lay 32 v5))) := A5.out.later hb
  replace A6 : Hid (Arr w7 b6 (List.map (Value.int .u8) (lay 32 v6))) := A6.out.later hb
  replace HB : Hid (Below w.heap.size w w7) := HB.out.trans (Below.mono hb HB.out.size)
  clear hb
  have e0 : ∀ u, Sem.run Try.prog (binOp .eql 22 (.agg (List.map (Value.int .u8) (lay 32 v5)).toArray) (.agg (List.map (Value.int .u8) (lay 32 v6)).toArray)) u = .ok (.bool true) u := fun u => eql_same _ _ (lay_by _) (lay_by _) (by rw [HE.out]) u
  have h5 := (by_cells (lay_by v5)).2.2
  have h6 := (by_cells (lay_by v6)).2.2
  generalize (List.map (Value.int .u8) (lay 32 v5)) = c5 at *
  generalize (List.map (Value.int .u8) (lay 32 v6)) = c6 at *
  go_wp2_with (first
    | (refine wpList_load_want (by rfl) 22 (.tmp 5) rfl b5 0 rfl c5 _ A5.out.rng Try.underlying22 rfl h5 ?_)
    | (refine wpList_load_want (by rfl) 22 (.tmp 6) rfl b6 0 rfl c6 _ A6.out.rng Try.underlying22 rfl h6 ?_))
  go_ret
  exact ⟨rfl, HB.out⟩
end Go.Proofs.Ytdfmbknofdkffaa
