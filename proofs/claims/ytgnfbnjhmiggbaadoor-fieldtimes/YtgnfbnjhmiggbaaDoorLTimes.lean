/-
  The walk of FieldTimes: true for whatever bytes and numbers, where the variable prime holds the prime's digits. No statement of the seat is proved here.
-/
import Derived.Test.YtgnfbnjhmiggbaaDoorRInv
namespace Go.Proofs.YtgnfbnjhmiggbaaDoor
open Go.RowKit

set_option maxHeartbeats 8000000 in
theorem fieldTimes_walk (a b : List Int) (m n : Int) (ha : By a) (hb : By b) (hm : -9223372036854775808 ≤ m ∧ m ≤ 9223372036854775807) (hn : -9223372036854775808 ≤ n ∧ n ≤ 9223372036854775807) (w : World) (hg : Gp w) :
    Calls Tryd.prog 4 #[(.agg (List.map (Value.int .u8) a).toArray), (.agg (List.map (Value.int .u8) b).toArray), .int .i64 m, .int .i64 n] w fun e w' => e = .returned (.bool true) ∧ Below w.heap.size w w' := by
  go_enter Tryd.func4, Tryd.ntmps4
  go_upto_region 1 with fail
  have HB : Hid (Below w.heap.size w ((w.alloc (.cells (List.map (Value.int .u8) a).toArray 22)).alloc (.cells (List.map (Value.int .u8) b).toArray 22))) := bel2 _ _ _
  have A4 : Hid (Arr ((w.alloc (.cells (List.map (Value.int .u8) a).toArray 22)).alloc (.cells (List.map (Value.int .u8) b).toArray 22)) (w.heap.size) (List.map (Value.int .u8) a)) := by
    have := (arr_box w a ha).later (bel1 _ (.cells (List.map (Value.int .u8) b).toArray 22))
    simpa [Hid] using this
  have A5 : Hid (Arr ((w.alloc (.cells (List.map (Value.int .u8) a).toArray 22)).alloc (.cells (List.map (Value.int .u8) b).toArray 22)) (w.heap.size + 1) (List.map (Value.int .u8) b)) := by
    have := arr_box (w.alloc (.cells (List.map (Value.int .u8) a).toArray 22)) b hb
    simpa [Hid] using this
  have HG : Hid (Gp ((w.alloc (.cells (List.map (Value.int .u8) a).toArray 22)).alloc (.cells (List.map (Value.int .u8) b).toArray 22))) := ((hg.later (bel1 _ _)).later (bel1 _ _))
  have hpos : 0 < w.heap.size := hg.pos
  have hq1 : w.heap.size < w.heap.size + 1 := by omega
  generalize (w.alloc (.cells (List.map (Value.int .u8) a).toArray 22)).alloc (.cells (List.map (Value.int .u8) b).toArray 22) = W0 at *
  generalize w.heap.size + 1 = q1 at *
  go_wp2_with (first | (refine wpList_load_mid rfl 22 (.tmp 4) rfl (w.heap.size) 0 rfl (List.map (Value.int .u8) a) _ A4.out.rng Tryd.underlying22 rfl (by_cells ha).2.2 ?_))
  refine (edge_any a ha m hm _).mono ?_
  rintro e u1_0 ⟨l14, rfl, hl14, hb1_0⟩
  have hc1_1 : Hid (Below W0.heap.size W0 u1_0) := hb1_0
  clear hb1_0
  replace A4 : Hid (Arr u1_0 (w.heap.size) (List.map (Value.int .u8) a)) := A4.out.later hc1_1.out
  replace A5 : Hid (Arr u1_0 q1 (List.map (Value.int .u8) b)) := A5.out.later hc1_1.out
  replace HG : Hid (Gp u1_0) := HG.out.later hc1_1.out
  replace HB : Hid (Below w.heap.size w u1_0) := HB.out.trans (Below.mono hc1_1.out HB.out.size)
  clear hc1_1
  obtain ⟨hlenS, honeS, hiS⟩ := by_cells hl14
  have A4n : Hid (Arr (u1_0.setCells (w.heap.size) 0 (List.map (Value.int .u8) l14)) (w.heap.size) (List.map (Value.int .u8) l14)) := ⟨World.rangeAt_setCells_same _ _ _ _ (by rw [hlenS]; exact A4.out.all), World.there_setCells A4.out.all _ _ _⟩
  have A5n : Hid (Arr (u1_0.setCells (w.heap.size) 0 (List.map (Value.int .u8) l14)) q1 (List.map (Value.int .u8) b)) := ⟨World.rangeAt_setCells_apart A5.out.rng _ _ _ (.inl (by omega)), World.there_setCells A5.out.all _ _ _⟩
  have HGn : Hid (Gp (u1_0.setCells (w.heap.size) 0 (List.map (Value.int .u8) l14))) := World.rangeAt_setCells_apart HG.out _ _ _ (.inl (by omega))
  have HBn : Hid (Below w.heap.size w (u1_0.setCells (w.heap.size) 0 (List.map (Value.int .u8) l14))) := below_setCells _ (by omega) _ _ _ HB.out
  generalize hcs : (List.map (Value.int .u8) l14) = cs1 at *
  go_upto_region 2 with (refine wpList_store_mid rfl 22 (.tmp 4) (.tmp 14) rfl (w.heap.size) 0 cs1.toArray rfl rfl (by simpa [hlenS] using A4.out.all) (by simpa using hiS) (all_oneCell_toArray honeS) ?_)
  clear hlenS honeS hiS HB HG A4 A5
  generalize u1_0.setCells (w.heap.size) 0 cs1 = W1 at *
  subst hcs
  have A4 := A4n
  clear A4n
  have A5 := A5n
  clear A5n
  have HG := HGn
  clear HGn
  have HB := HBn
  clear HBn
  go_wp2_with (first | (refine wpList_load_mid rfl 22 (.tmp 5) rfl q1 0 rfl (List.map (Value.int .u8) b) _ A5.out.rng Tryd.underlying22 rfl (by_cells hb).2.2 ?_))
  refine (edge_any b hb n hn _).mono ?_
  rintro e u2_0 ⟨l17, rfl, hl17, hb2_0⟩
  have hc2_1 : Hid (Below W1.heap.size W1 u2_0) := hb2_0
  clear hb2_0
  replace A4 : Hid (Arr u2_0 (w.heap.size) (List.map (Value.int .u8) l14)) := A4.out.later hc2_1.out
  replace A5 : Hid (Arr u2_0 q1 (List.map (Value.int .u8) b)) := A5.out.later hc2_1.out
  replace HG : Hid (Gp u2_0) := HG.out.later hc2_1.out
  replace HB : Hid (Below w.heap.size w u2_0) := HB.out.trans (Below.mono hc2_1.out HB.out.size)
  clear hc2_1
  obtain ⟨hlenS, honeS, hiS⟩ := by_cells hl17
  have A4n : Hid (Arr (u2_0.setCells q1 0 (List.map (Value.int .u8) l17)) (w.heap.size) (List.map (Value.int .u8) l14)) := ⟨World.rangeAt_setCells_apart A4.out.rng _ _ _ (.inl (by omega)), World.there_setCells A4.out.all _ _ _⟩
  have A5n : Hid (Arr (u2_0.setCells q1 0 (List.map (Value.int .u8) l17)) q1 (List.map (Value.int .u8) l17)) := ⟨World.rangeAt_setCells_same _ _ _ _ (by rw [hlenS]; exact A5.out.all), World.there_setCells A5.out.all _ _ _⟩
  have HGn : Hid (Gp (u2_0.setCells q1 0 (List.map (Value.int .u8) l17))) := World.rangeAt_setCells_apart HG.out _ _ _ (.inl (by omega))
  have HBn : Hid (Below w.heap.size w (u2_0.setCells q1 0 (List.map (Value.int .u8) l17))) := below_setCells _ (by omega) _ _ _ HB.out
  generalize hcs : (List.map (Value.int .u8) l17) = cs2 at *
  go_upto_region 3 with (refine wpList_store_mid rfl 22 (.tmp 5) (.tmp 17) rfl q1 0 cs2.toArray rfl rfl (by simpa [hlenS] using A5.out.all) (by simpa using hiS) (all_oneCell_toArray honeS) ?_)
  clear hlenS honeS hiS HB HG A4 A5
  generalize u2_0.setCells q1 0 cs2 = W2 at *
  subst hcs
  have A4 := A4n
  clear A4n
  have A5 := A5n
  clear A5n
  have HG := HGn
  clear HGn
  have HB := HBn
  clear HBn
  go_wp2_with (first | (refine wpList_load_mid rfl 22 (.tmp 4) rfl (w.heap.size) 0 rfl (List.map (Value.int .u8) l14) _ A4.out.rng Tryd.underlying22 rfl (by_cells hl14).2.2 ?_))
  refine (from_e l14 hl14 _).mono ?_
  rintro e u3_0 ⟨z19, rfl, hz19, Hz19, hb3_0⟩
  have hc3_1 : Hid (Below W2.heap.size W2 u3_0) := hb3_0
  clear hb3_0
  go_upto_region 4 with fail
  have hX : Hid (Below W2.heap.size W2 (u3_0.alloc (.cells #[.int .u64 (e0 z19), .int .u64 (e1 z19), .int .u64 (e2 z19), .int .u64 (e3 z19)] 29))) := hc3_1.out.trans ((bel1 u3_0 _).mono hc3_1.out.size)
  have V9 : Hid (Var (u3_0.alloc (.cells #[.int .u64 (e0 z19), .int .u64 (e1 z19), .int .u64 (e2 z19), .int .u64 (e3 z19)] 29)) (u3_0.heap.size) z19) := var_new u3_0 z19 _
  have hge9 : w.heap.size ≤ u3_0.heap.size := Nat.le_trans HB.out.size hc3_1.out.size
  generalize u3_0.alloc (.cells #[.int .u64 (e0 z19), .int .u64 (e1 z19), .int .u64 (e2 z19), .int .u64 (e3 z19)] 29) = W9 at *
  generalize u3_0.heap.size = b9 at *
  replace A4 : Hid (Arr W9 (w.heap.size) (List.map (Value.int .u8) l14)) := A4.out.later hX.out
  replace A5 : Hid (Arr W9 q1 (List.map (Value.int .u8) l17)) := A5.out.later hX.out
  replace HG : Hid (Gp W9) := HG.out.later hX.out
  replace HB : Hid (Below w.heap.size w W9) := HB.out.trans (Below.mono hX.out HB.out.size)
  clear hX hc3_1
  go_wp2_with (first | (refine wpList_load_mid rfl 22 (.tmp 5) rfl q1 0 rfl (List.map (Value.int .u8) l17) _ A5.out.rng Tryd.underlying22 rfl (by_cells hl17).2.2 ?_))
  refine (from_e l17 hl17 _).mono ?_
  rintro e u4_0 ⟨z21, rfl, hz21, Hz21, hb4_0⟩
  have hc4_1 : Hid (Below W9.heap.size W9 u4_0) := hb4_0
  clear hb4_0
  try clear V9c0 V9c1 V9c2 V9c3
  go_upto_region 5 with fail
  have hX : Hid (Below W9.heap.size W9 (u4_0.alloc (.cells #[.int .u64 (e0 z21), .int .u64 (e1 z21), .int .u64 (e2 z21), .int .u64 (e3 z21)] 29))) := hc4_1.out.trans ((bel1 u4_0 _).mono hc4_1.out.size)
  have V10 : Hid (Var (u4_0.alloc (.cells #[.int .u64 (e0 z21), .int .u64 (e1 z21), .int .u64 (e2 z21), .int .u64 (e3 z21)] 29)) (u4_0.heap.size) z21) := var_new u4_0 z21 _
  have hge10 : w.heap.size ≤ u4_0.heap.size := Nat.le_trans HB.out.size hc4_1.out.size
  have lt10_V9 : b9 < u4_0.heap.size := (V9.out.later hc4_1.out).lt
  generalize u4_0.alloc (.cells #[.int .u64 (e0 z21), .int .u64 (e1 z21), .int .u64 (e2 z21), .int .u64 (e3 z21)] 29) = W10 at *
  generalize u4_0.heap.size = b10 at *
  replace V9 : Hid (Var W10 b9 z19) := V9.out.later hX.out
  replace A4 : Hid (Arr W10 (w.heap.size) (List.map (Value.int .u8) l14)) := A4.out.later hX.out
  replace A5 : Hid (Arr W10 q1 (List.map (Value.int .u8) l17)) := A5.out.later hX.out
  replace HG : Hid (Gp W10) := HG.out.later hX.out
  replace HB : Hid (Below w.heap.size w W10) := HB.out.trans (Below.mono hX.out HB.out.size)
  clear hX hc4_1
  go_wp2_with (first | (refine wpList_load_mid rfl 22 (.tmp 4) rfl (w.heap.size) 0 rfl (List.map (Value.int .u8) l14) _ A4.out.rng Tryd.underlying22 rfl (by_cells hl14).2.2 ?_))
  refine (rfrom_any l14 hl14 _ HG.out).mono ?_
  rintro e u5_0 ⟨z23, rfl, Hz23, hb5_0⟩
  have hc5_1 : Hid (Below W10.heap.size W10 u5_0) := hb5_0
  clear hb5_0
  try clear V9c0 V9c1 V9c2 V9c3
  try clear V10c0 V10c1 V10c2 V10c3
  have hlz11 : z23.length = 16 := by rw [Hz23.out, dg_length]
  obtain ⟨hlenS, honeS, hiS⟩ := no_cells hlz11
  have hth := there_new u5_0 16 #[.int .u64 0, .int .u64 0, .int .u64 0, .int .u64 0, .int .u64 0, .int .u64 0, .int .u64 0, .int .u64 0, .int .u64 0, .int .u64 0, .int .u64 0, .int .u64 0, .int .u64 0, .int .u64 0, .int .u64 0, .int .u64 0] rfl 32
  have N11 : Hid (Wrd ((u5_0.alloc (.cells #[.int .u64 0, .int .u64 0, .int .u64 0, .int .u64 0, .int .u64 0, .int .u64 0, .int .u64 0, .int .u64 0, .int .u64 0, .int .u64 0, .int .u64 0, .int .u64 0, .int .u64 0, .int .u64 0, .int .u64 0, .int .u64 0] 32)).setCells u5_0.heap.size 0 (List.map (Value.int .u64) z23)) (u5_0.heap.size) z23) := wrd_store hth z23 hlz11
  have hX : Hid (Below W10.heap.size W10 ((u5_0.alloc (.cells #[.int .u64 0, .int .u64 0, .int .u64 0, .int .u64 0, .int .u64 0, .int .u64 0, .int .u64 0, .int .u64 0, .int .u64 0, .int .u64 0, .int .u64 0, .int .u64 0, .int .u64 0, .int .u64 0, .int .u64 0, .int .u64 0] 32)).setCells u5_0.heap.size 0 (List.map (Value.int .u64) z23))) := hc5_1.out.trans ((below_setCells _ (Nat.le_refl _) _ _ _ (bel1 _ _)).mono hc5_1.out.size)
  generalize hcs : (List.map (Value.int .u64) z23) = cs5 at *
  go_upto_region 6 with (refine wpList_store_mid rfl 32 (.tmp 11) (.tmp 23) rfl (u5_0.heap.size) 0 cs5.toArray rfl rfl (by simpa [hlenS] using hth) (by simpa using hiS) (all_oneCell_toArray honeS) ?_)
  clear hth hlenS honeS hiS hc5_1
  generalize (u5_0.alloc (.cells #[.int .u64 0, .int .u64 0, .int .u64 0, .int .u64 0, .int .u64 0, .int .u64 0, .int .u64 0, .int .u64 0, .int .u64 0, .int .u64 0, .int .u64 0, .int .u64 0, .int .u64 0, .int .u64 0, .int .u64 0, .int .u64 0] 32)).setCells u5_0.heap.size 0 cs5 = W11 at *
  generalize u5_0.heap.size = b11 at *
  subst hcs
  replace V9 : Hid (Var W11 b9 z19) := V9.out.later hX.out
  replace V10 : Hid (Var W11 b10 z21) := V10.out.later hX.out
  replace A4 : Hid (Arr W11 (w.heap.size) (List.map (Value.int .u8) l14)) := A4.out.later hX.out
  replace A5 : Hid (Arr W11 q1 (List.map (Value.int .u8) l17)) := A5.out.later hX.out
  replace HG : Hid (Gp W11) := HG.out.later hX.out
  replace HB : Hid (Below w.heap.size w W11) := HB.out.trans (Below.mono hX.out HB.out.size)
  clear hX
  obtain ⟨V9c0, V9c1, V9c2, V9c3⟩ := V9.out
  have V9u0 : ∀ u, Ext W11 u → u.cell? ⟨b9, 0, none⟩ = some (.int .u64 (e0 z19)) := fun u hu => hu.cell V9c0
  have V9u1 : ∀ u, Ext W11 u → u.cell? ⟨b9, 1, none⟩ = some (.int .u64 (e1 z19)) := fun u hu => hu.cell V9c1
  have V9u2 : ∀ u, Ext W11 u → u.cell? ⟨b9, 2, none⟩ = some (.int .u64 (e2 z19)) := fun u hu => hu.cell V9c2
  have V9u3 : ∀ u, Ext W11 u → u.cell? ⟨b9, 3, none⟩ = some (.int .u64 (e3 z19)) := fun u hu => hu.cell V9c3
  clear V9c0 V9c1 V9c2 V9c3
  obtain ⟨V10c0, V10c1, V10c2, V10c3⟩ := V10.out
  have V10u0 : ∀ u, Ext W11 u → u.cell? ⟨b10, 0, none⟩ = some (.int .u64 (e0 z21)) := fun u hu => hu.cell V10c0
  have V10u1 : ∀ u, Ext W11 u → u.cell? ⟨b10, 1, none⟩ = some (.int .u64 (e1 z21)) := fun u hu => hu.cell V10c1
  have V10u2 : ∀ u, Ext W11 u → u.cell? ⟨b10, 2, none⟩ = some (.int .u64 (e2 z21)) := fun u hu => hu.cell V10c2
  have V10u3 : ∀ u, Ext W11 u → u.cell? ⟨b10, 3, none⟩ = some (.int .u64 (e3 z21)) := fun u hu => hu.cell V10c3
  clear V10c0 V10c1 V10c2 V10c3
  refine wp_region_noPanic ?_
  refine wp_region_held_drew (S := Ext W11) (by kernel_rfl) (Ext.refl _).drew (fun hH => ?_)
  change wpAnyH _ _ _ _ _ _ #[false, false, false, false, false, false, false, false, false, false, false, false, false, false, false, false, false, false, false, false, false, false, false] _ _
  refine wpAnyH_ready (rs := [0]) (by kernel_rfl) (by simp) ?_
  refine AllReadyH.cons (o := ?o0r6) ?h0r6 (fun K hK => ?_) AllReadyH.nil
  case h0r6 => simp only [List.getElem?_toArray]; rfl
  go_simp
  refine (known_any _).mono ?_
  rintro e c6_0 ⟨rfl, hb6_0⟩
  refine hK.out _ _ (hH.trans hb6_0) (fun hH' => ?_)
  clear hK K hH
  have hH := hH'
  clear hH'
  try simp only [List.setIfInBounds_toArray, List.set]
  clear hb6_0
  refine wpAnyH_take (i := 1) (oi := ?o1r6) (v := ?v1r6) ?h1r6 (by kernel_rfl) ?f1r6 ?r1r6 (fun _ _ _ h => h) (Or.inl ⟨?w1r6, ?y1r6⟩) (by assumption) ?t1r6
  case h1r6 => simp only [List.getElem?_toArray]; rfl
  case f1r6 => kernel_rfl
  case r1r6 => kernel_rfl
  case w1r6 => rfl
  case y1r6 => (intro u hu; (go_simp) <;> with_reducible rfl)
  try simp only [Act.put, List.setIfInBounds_toArray, List.set_cons_zero, List.set_cons_succ]
  refine wpAnyH_take (i := 2) (oi := ?o2r6) (v := ?v2r6) ?h2r6 (by kernel_rfl) ?f2r6 ?r2r6 (fun _ _ _ h => h) (Or.inl ⟨?w2r6, ?y2r6⟩) (by assumption) ?t2r6
  case h2r6 => simp only [List.getElem?_toArray]; rfl
  case f2r6 => kernel_rfl
  case r2r6 => kernel_rfl
  case w2r6 => rfl
  case y2r6 => (intro u hu; (go_simp) <;> with_reducible rfl)
  try simp only [Act.put, List.setIfInBounds_toArray, List.set_cons_zero, List.set_cons_succ]
  refine wpAnyH_take (i := 3) (oi := ?o3r6) (v := ?v3r6) ?h3r6 (by kernel_rfl) ?f3r6 ?r3r6 (fun _ _ _ h => h) (Or.inl ⟨?w3r6, ?y3r6⟩) (by assumption) ?t3r6
  case h3r6 => simp only [List.getElem?_toArray]; rfl
  case f3r6 => kernel_rfl
  case r3r6 => kernel_rfl
  case w3r6 => rfl
  case y3r6 => (intro u hu; (go_simp) <;> with_reducible rfl)
  try simp only [Act.put, List.setIfInBounds_toArray, List.set_cons_zero, List.set_cons_succ]
  refine wpAnyH_take (i := 6) (oi := ?o6r6) (v := .agg (List.map (Value.int .u64) z23).toArray) ?h6r6 (by kernel_rfl) ?f6r6 ?r6r6 (fun _ _ _ h => h) ?y6r6 (by assumption) ?t6r6
  case h6r6 => simp only [List.getElem?_toArray]; rfl
  case f6r6 => kernel_rfl
  case r6r6 => kernel_rfl
  case y6r6 => exact yieldsIf_load_mid (by rfl) 32 (.tmp 11) rfl b11 0 rfl (List.map (Value.int .u64) z23) _ (fun u hu => range_later hu N11.out.rng) Tryd.underlying32 rfl (no_cells hlz11).2.2
  try simp only [Act.put, List.setIfInBounds_toArray, List.set_cons_zero, List.set_cons_succ]
  refine wpAnyH_take (i := 7) (oi := ?o7r6) (v := .agg (List.map (Value.int .u8) l17).toArray) ?h7r6 (by kernel_rfl) ?f7r6 ?r7r6 (fun _ _ _ h => h) ?y7r6 (by assumption) ?t7r6
  case h7r6 => simp only [List.getElem?_toArray]; rfl
  case f7r6 => kernel_rfl
  case r7r6 => kernel_rfl
  case y7r6 => exact yieldsIf_load_mid (by rfl) 22 (.tmp 5) rfl q1 0 rfl (List.map (Value.int .u8) l17) _ (fun u hu => range_later hu A5.out.rng) Tryd.underlying22 rfl (by_cells hl17).2.2
  try simp only [Act.put, List.setIfInBounds_toArray, List.set_cons_zero, List.set_cons_succ]
  refine wpAnyH_ready (rs := [4]) (by kernel_rfl) (by simp) ?_
  refine AllReadyH.cons (o := ?o4r6) ?h4r6 (fun K hK => ?_) AllReadyH.nil
  case h4r6 => simp only [List.getElem?_toArray]; rfl
  go_simp
  refine (mul_e z19 z21 hz19 hz21 _).mono ?_
  rintro e c6_4 ⟨z28, rfl, hz28, Hz28, hb6_4⟩
  refine hK.out _ _ (hH.trans hb6_4) (fun hH' => ?_)
  clear hK K hH
  have hH := hH'
  clear hH'
  try simp only [List.setIfInBounds_toArray, List.set]
  clear hb6_4
  refine wpAnyH_ready (rs := [5]) (by kernel_rfl) (by simp) ?_
  refine AllReadyH.cons (o := ?o5r6) ?h5r6 (fun K hK => ?_) AllReadyH.nil
  case h5r6 => simp only [List.getElem?_toArray]; rfl
  go_simp
  refine (bytes_e z28 hz28 _).mono ?_
  rintro e c6_5 ⟨rfl, hb6_5⟩
  refine hK.out _ _ (hH.trans hb6_5) (fun hH' => ?_)
  clear hK K hH
  have hH := hH'
  clear hH'
  try simp only [List.setIfInBounds_toArray, List.set]
  clear hb6_5
  refine wpAnyH_ready (rs := [8]) (by kernel_rfl) (by simp) ?_
  refine AllReadyH.cons (o := ?o8r6) ?h8r6 (fun K hK => ?_) AllReadyH.nil
  case h8r6 => simp only [List.getElem?_toArray]; rfl
  go_simp
  refine (rfrom_any l17 hl17 _ (Gp.later HG.out hH)).mono ?_
  rintro e c6_8 ⟨z32, rfl, Hz32, hb6_8⟩
  refine hK.out _ _ (hH.trans hb6_8) (fun hH' => ?_)
  clear hK K hH
  have hH := hH'
  clear hH'
  try simp only [List.setIfInBounds_toArray, List.set]
  clear hb6_8
  refine wpAnyH_ready (rs := [9]) (by kernel_rfl) (by simp) ?_
  refine AllReadyH.cons (o := ?o9r6) ?h9r6 (fun K hK => ?_) AllReadyH.nil
  case h9r6 => simp only [List.getElem?_toArray]; rfl
  go_simp
  refine (rmul_el z23 z32 (num l14) (num l17) (num_el l14) (num_el l17) Hz23 Hz32 _ (Gp.later HG.out hH)).mono ?_
  rintro e c6_9 ⟨z33, rfl, Hz33, hb6_9⟩
  refine hK.out _ _ (hH.trans hb6_9) (fun hH' => ?_)
  clear hK K hH
  have hH := hH'
  clear hH'
  try simp only [List.setIfInBounds_toArray, List.set]
  clear hb6_9
  refine wpAnyH_ready (rs := [10]) (by kernel_rfl) (by simp) ?_
  refine AllReadyH.cons (o := ?o10r6) ?h10r6 (fun K hK => ?_) AllReadyH.nil
  case h10r6 => simp only [List.getElem?_toArray]; rfl
  go_simp
  refine (rbytes_any z33 ((num l14) * (num l17) % 57896044618658097711785492504343953926634992332820282019728792003956564819949) Hz33 _).mono ?_
  rintro e c6_10 ⟨rfl, hb6_10⟩
  refine hK.out _ _ (hH.trans hb6_10) (fun hH' => ?_)
  clear hK K hH
  have hH := hH'
  clear hH'
  try simp only [List.setIfInBounds_toArray, List.set]
  clear hb6_10
  have hq35 : ∀ u, Sem.run Tryd.prog (binOp .eql 22 (.agg (List.map (Value.int .u8) (lay 32 z28)).toArray) (.agg (List.map (Value.int .u8) (lay 32 ((num l14) * (num l17) % 57896044618658097711785492504343953926634992332820282019728792003956564819949))).toArray)) u = .ok (.bool true) u := fun u => eql_same _ _ (lay_by _) (lay_by _) (by rw [Hz28.out, Hz19.out, Hz21.out]) u
  refine wpAnyH_take (i := 11) (oi := ?o11r6) (v := ?v11r6) ?h11r6 (by kernel_rfl) ?f11r6 ?r11r6 (fun _ _ _ h => h) (Or.inl ⟨?w11r6, ?y11r6⟩) (by assumption) ?t11r6
  case h11r6 => simp only [List.getElem?_toArray]; rfl
  case f11r6 => kernel_rfl
  case r11r6 => kernel_rfl
  case w11r6 => rfl
  case y11r6 => (intro u hu; (go_simp) <;> with_reducible rfl)
  try simp only [Act.put, List.setIfInBounds_toArray, List.set_cons_zero, List.set_cons_succ]
  refine wpAnyH_take (i := 12) (oi := ?o12r6) (v := ?v12r6) ?h12r6 (by kernel_rfl) ?f12r6 ?r12r6 (fun _ _ _ h => h) (Or.inl ⟨?w12r6, ?y12r6⟩) (by assumption) ?t12r6
  case h12r6 => simp only [List.getElem?_toArray]; rfl
  case f12r6 => kernel_rfl
  case r12r6 => kernel_rfl
  case w12r6 => rfl
  case y12r6 => (intro u hu; (go_simp) <;> with_reducible rfl)
  try simp only [Act.put, List.setIfInBounds_toArray, List.set_cons_zero, List.set_cons_succ]
  refine wpAnyH_take (i := 13) (oi := ?o13r6) (v := ?v13r6) ?h13r6 (by kernel_rfl) ?f13r6 ?r13r6 (fun _ _ _ h => h) (Or.inl ⟨?w13r6, ?y13r6⟩) (by assumption) ?t13r6
  case h13r6 => simp only [List.getElem?_toArray]; rfl
  case f13r6 => kernel_rfl
  case r13r6 => kernel_rfl
  case w13r6 => rfl
  case y13r6 => (intro u hu; (go_simp) <;> with_reducible rfl)
  try simp only [Act.put, List.setIfInBounds_toArray, List.set_cons_zero, List.set_cons_succ]
  refine wpAnyH_take (i := 14) (oi := ?o14r6) (v := ?v14r6) ?h14r6 (by kernel_rfl) ?f14r6 ?r14r6 (fun _ _ _ h => h) (Or.inl ⟨?w14r6, ?y14r6⟩) (by assumption) ?t14r6
  case h14r6 => simp only [List.getElem?_toArray]; rfl
  case f14r6 => kernel_rfl
  case r14r6 => kernel_rfl
  case w14r6 => rfl
  case y14r6 => (intro u hu; (go_simp) <;> with_reducible rfl)
  try simp only [Act.put, List.setIfInBounds_toArray, List.set_cons_zero, List.set_cons_succ]
  refine wpAnyH_take (i := 17) (oi := ?o17r6) (v := .agg (List.map (Value.int .u64) z23).toArray) ?h17r6 (by kernel_rfl) ?f17r6 ?r17r6 (fun _ _ _ h => h) ?y17r6 (by assumption) ?t17r6
  case h17r6 => simp only [List.getElem?_toArray]; rfl
  case f17r6 => kernel_rfl
  case r17r6 => kernel_rfl
  case y17r6 => exact yieldsIf_load_mid (by rfl) 32 (.tmp 11) rfl b11 0 rfl (List.map (Value.int .u64) z23) _ (fun u hu => range_later hu N11.out.rng) Tryd.underlying32 rfl (no_cells hlz11).2.2
  try simp only [Act.put, List.setIfInBounds_toArray, List.set_cons_zero, List.set_cons_succ]
  refine wpAnyH_ready (rs := [15]) (by kernel_rfl) (by simp) ?_
  refine AllReadyH.cons (o := ?o15r6) ?h15r6 (fun K hK => ?_) AllReadyH.nil
  case h15r6 => simp only [List.getElem?_toArray]; rfl
  go_simp
  refine (invert_e z19 hz19 _).mono ?_
  rintro e c6_15 ⟨z39, rfl, hz39, Hz39, hb6_15⟩
  refine hK.out _ _ (hH.trans hb6_15) (fun hH' => ?_)
  clear hK K hH
  have hH := hH'
  clear hH'
  try simp only [List.setIfInBounds_toArray, List.set]
  clear hb6_15
  refine wpAnyH_ready (rs := [16]) (by kernel_rfl) (by simp) ?_
  refine AllReadyH.cons (o := ?o16r6) ?h16r6 (fun K hK => ?_) AllReadyH.nil
  case h16r6 => simp only [List.getElem?_toArray]; rfl
  go_simp
  refine (bytes_e z39 hz39 _).mono ?_
  rintro e c6_16 ⟨rfl, hb6_16⟩
  refine hK.out _ _ (hH.trans hb6_16) (fun hH' => ?_)
  clear hK K hH
  have hH := hH'
  clear hH'
  try simp only [List.setIfInBounds_toArray, List.set]
  clear hb6_16
  refine wpAnyH_ready (rs := [18]) (by kernel_rfl) (by simp) ?_
  refine AllReadyH.cons (o := ?o18r6) ?h18r6 (fun K hK => ?_) AllReadyH.nil
  case h18r6 => simp only [List.getElem?_toArray]; rfl
  go_simp
  refine (rinvert_any z23 (num l14) (num_el l14) Hz23 _ (Gp.later HG.out hH)).mono ?_
  rintro e c6_18 ⟨z42, rfl, Hz42, hb6_18⟩
  refine hK.out _ _ (hH.trans hb6_18) (fun hH' => ?_)
  clear hK K hH
  have hH := hH'
  clear hH'
  try simp only [List.setIfInBounds_toArray, List.set]
  clear hb6_18
  refine wpAnyH_ready (rs := [19]) (by kernel_rfl) (by simp) ?_
  refine AllReadyH.cons (o := ?o19r6) ?h19r6 (fun K hK => ?_) AllReadyH.nil
  case h19r6 => simp only [List.getElem?_toArray]; rfl
  go_simp
  refine (rbytes_any z42 (pw (num l14) 57896044618658097711785492504343953926634992332820282019728792003956564819947) Hz42 _).mono ?_
  rintro e c6_19 ⟨rfl, hb6_19⟩
  refine hK.out _ _ (hH.trans hb6_19) (fun hH' => ?_)
  clear hK K hH
  have hH := hH'
  clear hH'
  try simp only [List.setIfInBounds_toArray, List.set]
  clear hb6_19
  have hq44 : ∀ u, Sem.run Tryd.prog (binOp .eql 22 (.agg (List.map (Value.int .u8) (lay 32 z39)).toArray) (.agg (List.map (Value.int .u8) (lay 32 (pw (num l14) 57896044618658097711785492504343953926634992332820282019728792003956564819947))).toArray)) u = .ok (.bool true) u := fun u => eql_same _ _ (lay_by _) (lay_by _) (by rw [Hz39.out, Hz19.out]) u
  refine wpAnyH_take (i := 20) (oi := ?o20r6) (v := ?v20r6) ?h20r6 (by kernel_rfl) ?f20r6 ?r20r6 (fun _ _ _ h => h) (Or.inl ⟨?w20r6, ?y20r6⟩) (by assumption) ?t20r6
  case h20r6 => simp only [List.getElem?_toArray]; rfl
  case f20r6 => kernel_rfl
  case r20r6 => kernel_rfl
  case w20r6 => rfl
  case y20r6 => (intro u hu; (go_simp) <;> with_reducible rfl)
  try simp only [Act.put, List.setIfInBounds_toArray, List.set_cons_zero, List.set_cons_succ]
  refine wpAnyH_take (i := 21) (oi := ?o21r6) (v := ?v21r6) ?h21r6 (by kernel_rfl) ?f21r6 ?r21r6 (fun _ _ _ h => h) (Or.inl ⟨?w21r6, ?y21r6⟩) (by assumption) ?t21r6
  case h21r6 => simp only [List.getElem?_toArray]; rfl
  case f21r6 => kernel_rfl
  case r21r6 => kernel_rfl
  case w21r6 => rfl
  case y21r6 => (intro u hu; (go_simp) <;> with_reducible rfl)
  try simp only [Act.put, List.setIfInBounds_toArray, List.set_cons_zero, List.set_cons_succ]
  refine wpAnyH_take (i := 22) (oi := ?o22r6) (v := ?v22r6) ?h22r6 (by kernel_rfl) ?f22r6 ?r22r6 (fun _ _ _ h => h) (Or.inl ⟨?w22r6, ?y22r6⟩) (by assumption) ?t22r6
  case h22r6 => simp only [List.getElem?_toArray]; rfl
  case f22r6 => kernel_rfl
  case r22r6 => kernel_rfl
  case w22r6 => rfl
  case y22r6 => (intro u hu; (go_simp) <;> with_reducible rfl)
  try simp only [Act.put, List.setIfInBounds_toArray, List.set_cons_zero, List.set_cons_succ]
  refine wpAnyH_done (by kernel_rfl) ?_ _
  refine NoPanic.normal ?_
  go_wp2
  go_ret
  exact ⟨rfl, HB.out.trans (Below.mono hH HB.out.size)⟩
end Go.Proofs.YtgnfbnjhmiggbaaDoor
