/-
  CurveKnown's walk. No statement of the seat is proved here.
-/
import Derived.Test.YtggjifpcoidipaaDoorLCK
namespace Go.Proofs.YtggjifpcoidipaaDoor
open Go.RowKit

set_option maxHeartbeats 2000000 in
theorem rpublic_l (k : List Int) (hk : By k) (w : World) (hg : Gp w) :
    Calls Tryd.prog 20 #[(.agg (List.map (Value.int .u8) k).toArray)] w fun e w' => ∃ z, e = .returned (.agg (List.map (Value.int .u8) (lay 32 z)).toArray) ∧ Hid (z = xn (leN (cl k)) 9) ∧ Below w.heap.size w w' := by
  obtain ⟨_, _, hiK⟩ := by_cells hk
  go_enter Tryd.func20, Tryd.ntmps20
  go_upto_region 1 with fail
  obtain ⟨W0, hW0⟩ : ∃ W, W = (w.alloc (.cells (List.map (Value.int .u8) k).toArray 22)).alloc (.cells #[.int .u8 0, .int .u8 0, .int .u8 0, .int .u8 0, .int .u8 0, .int .u8 0, .int .u8 0, .int .u8 0, .int .u8 0, .int .u8 0, .int .u8 0, .int .u8 0, .int .u8 0, .int .u8 0, .int .u8 0, .int .u8 0, .int .u8 0, .int .u8 0, .int .u8 0, .int .u8 0, .int .u8 0, .int .u8 0, .int .u8 0, .int .u8 0, .int .u8 0, .int .u8 0, .int .u8 0, .int .u8 0, .int .u8 0, .int .u8 0, .int .u8 0, .int .u8 0] 22) := ⟨_, rfl⟩
  obtain ⟨q1, hq1⟩ : ∃ q, q = w.heap.size + 1 := ⟨_, rfl⟩
  rw [← hW0, ← hq1]
  have HB : Hid (Below w.heap.size w W0) := by unfold Hid; rw [hW0]; exact bel2 _ _ _
  have AK : Hid (Arr W0 w.heap.size (List.map (Value.int .u8) k)) := by unfold Hid; rw [hW0]; exact (arr_box w k hk).later (bel1 _ _)
  have HD : Hid (W0.there q1 0 32) := by unfold Hid; rw [hW0, hq1]; have := there_new (w.alloc (.cells (List.map (Value.int .u8) k).toArray 22)) 32 #[.int .u8 0, .int .u8 0, .int .u8 0, .int .u8 0, .int .u8 0, .int .u8 0, .int .u8 0, .int .u8 0, .int .u8 0, .int .u8 0, .int .u8 0, .int .u8 0, .int .u8 0, .int .u8 0, .int .u8 0, .int .u8 0, .int .u8 0, .int .u8 0, .int .u8 0, .int .u8 0, .int .u8 0, .int .u8 0, .int .u8 0, .int .u8 0, .int .u8 0, .int .u8 0, .int .u8 0, .int .u8 0, .int .u8 0, .int .u8 0, .int .u8 0, .int .u8 0] rfl 22; simpa using this
  have HG : Hid (Gp W0) := hg.later HB.out
  have k1 : w.heap.size < q1 := by omega
  clear hW0 hq1 hg
  go_wp2_with (refine wpList_load_mid rfl 22 (.tmp 1) rfl (w.heap.size) 0 rfl (List.map (Value.int .u8) k) _ AK.out.rng Tryd.underlying22 rfl hiK ?_)
  rw [bz_arr 9]
  refine (rx_l k (bz 9) hk (bz_by 9 (by decide) (by decide)) _ HG.out).mono ?_
  rintro e w1 ⟨z, rfl, -, HZ, hb⟩
  replace HD : Hid (w1.there q1 0 32) := there_later hb HD.out
  replace HB : Hid (Below w.heap.size w w1) := HB.out.trans (hb.mono HB.out.size)
  clear hb
  obtain ⟨hlen, hone, hi⟩ := by_cells (lay_by z)
  obtain ⟨cs, HC⟩ : ∃ cs, Hid (cs = (List.map (Value.int .u8) (lay 32 z))) := ⟨_, rfl⟩
  rw [← HC.out] at hlen hone hi ⊢
  have hth := HD.out
  go_wp2_with (refine wpList_store_mid rfl 22 (.tmp 2) (.tmp 5) rfl q1 0 cs.toArray rfl rfl (by simpa [hlen] using hth) (by simpa using hi) (all_oneCell_toArray hone) ?_)
  have HR2 : Hid ((w1.setCells q1 0 cs).rangeAt q1 0 cs) := World.rangeAt_setCells_same _ _ _ _ (by rw [hlen]; exact hth)
  have hld := run_loadVar_mid (P := Tryd.prog) _ _ 0 22 _ _ HR2.out Tryd.underlying22 rfl hi
  exact bodyPost_ret (v := .agg cs.toArray) (by simp [results, Tryd.results20]; exact hld) rfl ⟨z, by rw [HC.out], by unfold Hid; rw [HZ.out, num_bz 9 (by decide) (by decide)], below_setCells _ (by omega) _ _ _ HB.out⟩

set_option maxRecDepth 8000 in
set_option maxHeartbeats 16000000 in
theorem curveKnown_walk (w : World) (hg : Gp w) : Calls Tryd.prog 4 #[] w fun e w' => e = .returned (.bool true) ∧ Below w.heap.size w w' := by
  go_enter Tryd.func4, Tryd.ntmps4
  have HG : Hid (Gp w) := hg
  have HB : Hid (Below w.heap.size w w) := Below.refl _ _
  clear hg
  go_wp2_with fail
  refine (hex_c _ (by decide +kernel) (by decide +kernel) _).mono ?_
  rintro e V1 ⟨l1, rfl, H1, HY1, hb⟩
  have E1 : Hid (l1 = akey) := by unfold Hid; rw [H1.out]; decide +kernel
  clear H1
  replace HG : Hid (Gp V1) := HG.out.later hb
  replace HB : Hid (Below w.heap.size w V1) := HB.out.trans (hb.mono HB.out.size)
  clear hb
  go_wp2_with fail
  refine (hex_c _ (by decide +kernel) (by decide +kernel) _).mono ?_
  rintro e V2 ⟨l2, rfl, H2, HY2, hb⟩
  have E2 : Hid (l2 = ukey) := by unfold Hid; rw [H2.out]; decide +kernel
  clear H2
  replace HG : Hid (Gp V2) := HG.out.later hb
  replace HB : Hid (Below w.heap.size w V2) := HB.out.trans (hb.mono HB.out.size)
  clear hb
  go_wp2_with fail
  refine (x_l l1 l2 HY1.out HY2.out _).mono ?_
  rintro e V3 ⟨z, rfl, -, HZ, hb⟩
  have EZ : Hid (lay 32 z = ckey) := by unfold Hid; rw [HZ.out, E1.out, E2.out, xn_val, c_lay]
  clear HZ E1 E2 HY1 HY2
  replace HG : Hid (Gp V3) := HG.out.later hb
  replace HB : Hid (Below w.heap.size w V3) := HB.out.trans (hb.mono HB.out.size)
  clear hb
  obtain ⟨hlen, hone, hi⟩ := by_cells (lay_by z)
  obtain ⟨cs, HC⟩ : ∃ c, Hid (c = (List.map (Value.int .u8) (lay 32 z))) := ⟨_, rfl⟩
  rw [← HC.out] at hlen hone hi ⊢
  have hth := there_new V3 32 #[.int .u8 0, .int .u8 0, .int .u8 0, .int .u8 0, .int .u8 0, .int .u8 0, .int .u8 0, .int .u8 0, .int .u8 0, .int .u8 0, .int .u8 0, .int .u8 0, .int .u8 0, .int .u8 0, .int .u8 0, .int .u8 0, .int .u8 0, .int .u8 0, .int .u8 0, .int .u8 0, .int .u8 0, .int .u8 0, .int .u8 0, .int .u8 0, .int .u8 0, .int .u8 0, .int .u8 0, .int .u8 0, .int .u8 0, .int .u8 0, .int .u8 0, .int .u8 0] rfl 22
  go_upto_region 2 with (refine wpList_store_mid rfl 22 (.tmp 1) (.tmp 5) rfl (V3.heap.size) 0 cs.toArray rfl rfl (by simpa [hlen] using hth) (by simpa using hi) (all_oneCell_toArray hone) ?_)
  clear hth
  obtain ⟨W4, hW⟩ : ∃ W, W = (V3.alloc (.cells #[.int .u8 0, .int .u8 0, .int .u8 0, .int .u8 0, .int .u8 0, .int .u8 0, .int .u8 0, .int .u8 0, .int .u8 0, .int .u8 0, .int .u8 0, .int .u8 0, .int .u8 0, .int .u8 0, .int .u8 0, .int .u8 0, .int .u8 0, .int .u8 0, .int .u8 0, .int .u8 0, .int .u8 0, .int .u8 0, .int .u8 0, .int .u8 0, .int .u8 0, .int .u8 0, .int .u8 0, .int .u8 0, .int .u8 0, .int .u8 0, .int .u8 0, .int .u8 0] 22)).setCells V3.heap.size 0 cs := ⟨_, rfl⟩
  obtain ⟨b1, hbn⟩ : ∃ b, b = V3.heap.size := ⟨_, rfl⟩
  rw [← hW, ← hbn]
  have Ab1 : Hid (Arr W4 b1 (List.map (Value.int .u8) (lay 32 z))) := by unfold Hid; rw [hW, hbn, ← HC.out]; exact arr_new V3 _ rfl _ hlen
  have hbl : Below V3.heap.size V3 W4 := by rw [hW]; exact bel_new _ _ _
  replace HG : Hid (Gp W4) := HG.out.later hbl
  replace HB : Hid (Below w.heap.size w W4) := HB.out.trans (hbl.mono HB.out.size)
  clear hbl hW hbn hlen hone hi HC
  go_wp2_with fail
  refine (hex_c _ (by decide +kernel) (by decide +kernel) _).mono ?_
  rintro e V5 ⟨l3, rfl, H3, HY3, hb⟩
  clear H3
  replace HG : Hid (Gp V5) := HG.out.later hb
  replace Ab1 : Hid (Arr V5 b1 (List.map (Value.int .u8) (lay 32 z))) := Ab1.out.later hb
  replace HB : Hid (Below w.heap.size w V5) := HB.out.trans (hb.mono HB.out.size)
  clear hb
  obtain ⟨hlen, hone, hi⟩ := by_cells HY3.out
  obtain ⟨cs, HC⟩ : ∃ c, Hid (c = (List.map (Value.int .u8) l3)) := ⟨_, rfl⟩
  rw [← HC.out] at hlen hone hi ⊢
  have hth := there_new V5 32 #[.int .u8 0, .int .u8 0, .int .u8 0, .int .u8 0, .int .u8 0, .int .u8 0, .int .u8 0, .int .u8 0, .int .u8 0, .int .u8 0, .int .u8 0, .int .u8 0, .int .u8 0, .int .u8 0, .int .u8 0, .int .u8 0, .int .u8 0, .int .u8 0, .int .u8 0, .int .u8 0, .int .u8 0, .int .u8 0, .int .u8 0, .int .u8 0, .int .u8 0, .int .u8 0, .int .u8 0, .int .u8 0, .int .u8 0, .int .u8 0, .int .u8 0, .int .u8 0] rfl 22
  go_upto_region 3 with (refine wpList_store_mid rfl 22 (.tmp 2) (.tmp 6) rfl (V5.heap.size) 0 cs.toArray rfl rfl (by simpa [hlen] using hth) (by simpa using hi) (all_oneCell_toArray hone) ?_)
  clear hth
  obtain ⟨W6, hW⟩ : ∃ W, W = (V5.alloc (.cells #[.int .u8 0, .int .u8 0, .int .u8 0, .int .u8 0, .int .u8 0, .int .u8 0, .int .u8 0, .int .u8 0, .int .u8 0, .int .u8 0, .int .u8 0, .int .u8 0, .int .u8 0, .int .u8 0, .int .u8 0, .int .u8 0, .int .u8 0, .int .u8 0, .int .u8 0, .int .u8 0, .int .u8 0, .int .u8 0, .int .u8 0, .int .u8 0, .int .u8 0, .int .u8 0, .int .u8 0, .int .u8 0, .int .u8 0, .int .u8 0, .int .u8 0, .int .u8 0] 22)).setCells V5.heap.size 0 cs := ⟨_, rfl⟩
  obtain ⟨b2, hbn⟩ : ∃ b, b = V5.heap.size := ⟨_, rfl⟩
  rw [← hW, ← hbn]
  have Ab2 : Hid (Arr W6 b2 (List.map (Value.int .u8) l3)) := by unfold Hid; rw [hW, hbn, ← HC.out]; exact arr_new V5 _ rfl _ hlen
  have hbl : Below V5.heap.size V5 W6 := by rw [hW]; exact bel_new _ _ _
  replace HG : Hid (Gp W6) := HG.out.later hbl
  replace Ab1 : Hid (Arr W6 b1 (List.map (Value.int .u8) (lay 32 z))) := Ab1.out.later hbl
  replace HB : Hid (Below w.heap.size w W6) := HB.out.trans (hbl.mono HB.out.size)
  clear hbl hW hbn hlen hone hi HC
  obtain ⟨_, _, hi1⟩ := by_cells (lay_by z)
  obtain ⟨_, _, hi2⟩ := by_cells HY3.out
  refine wp_region_noPanic ?_
  refine wp_region_held_drew (S := Ext W6) (by kernel_rfl) (Ext.refl _).drew (fun hH => ?_)
  change wpAnyH _ _ _ _ _ _ #[false, false, false, false, false, false, false, false, false, false, false, false, false, false, false, false, false, false, false, false, false, false] _ _
  refine wpAnyH_ready (rs := [0]) (by kernel_rfl) (by simp) ?_
  refine AllReadyH.cons (o := ?o0k) ?h0k (fun K hK => ?_) AllReadyH.nil
  case h0k => simp only [List.getElem?_toArray]; rfl
  go_simp
  refine (known3_any _).mono ?_
  rintro e V7 ⟨rfl, hb⟩
  refine hK.out _ _ (hH.trans hb) (fun hH' => ?_)
  clear hK K hH
  have hH := hH'
  clear hH'
  try simp only [List.setIfInBounds_toArray, List.set]
  clear hb
  refine wpAnyH_take (i := 1) (oi := ?o1k) (v := ?v1k) ?h1k (by kernel_rfl) ?f1k ?r1k (fun _ _ _ h => h) (Or.inl ⟨?w1k, ?y1k⟩) (by assumption) ?t1k
  case h1k => simp only [List.getElem?_toArray]; rfl
  case f1k => kernel_rfl
  case r1k => kernel_rfl
  case w1k => rfl
  case y1k => (intro u hu; (go_simp) <;> with_reducible rfl)
  try simp only [Act.put, List.setIfInBounds_toArray, List.set_cons_zero, List.set_cons_succ]
  refine wpAnyH_take (i := 2) (oi := ?o2k) (v := .agg (List.map (Value.int .u8) (lay 32 z)).toArray) ?h2k (by kernel_rfl) ?f2k ?r2k (fun _ _ _ h => h) ?y2k (by assumption) ?t2k
  case h2k => simp only [List.getElem?_toArray]; rfl
  case f2k => kernel_rfl
  case r2k => kernel_rfl
  case y2k => exact yieldsIf_load_mid (by rfl) 22 (.tmp 1) rfl b1 0 rfl (List.map (Value.int .u8) (lay 32 z)) _ (fun u hu => range_later hu Ab1.out.rng) Tryd.underlying22 rfl hi1
  try simp only [Act.put, List.setIfInBounds_toArray, List.set_cons_zero, List.set_cons_succ]
  refine wpAnyH_ready (rs := [3]) (by kernel_rfl) (by simp) ?_
  refine AllReadyH.cons (o := ?o3k) ?h3k (fun K hK => ?_) AllReadyH.nil
  case h3k => simp only [List.getElem?_toArray]; rfl
  go_simp
  refine (hex_c _ (by decide +kernel) (by decide +kernel) _).mono ?_
  rintro e V8 ⟨l4, rfl, H4, HY4, hb⟩
  refine hK.out _ _ (hH.trans hb) (fun hH' => ?_)
  clear hK K hH
  have hH := hH'
  clear hH'
  try simp only [List.setIfInBounds_toArray, List.set]
  clear hb
  have E4 : Hid (l4 = ckey) := by unfold Hid; rw [H4.out]; decide +kernel
  clear H4
  have heq : ∀ u, Sem.run Tryd.prog (binOp .eql 22 (.agg (List.map (Value.int .u8) (lay 32 z)).toArray) (.agg (List.map (Value.int .u8) l4).toArray)) u = .ok (.bool true) u := fun u => eql_same _ _ (lay_by _) HY4.out (by rw [EZ.out, E4.out]) u
  refine wpAnyH_take (i := 4) (oi := ?o4k) (v := ?v4k) ?h4k (by kernel_rfl) ?f4k ?r4k (fun _ _ _ h => h) (Or.inl ⟨?w4k, ?y4k⟩) (by assumption) ?t4k
  case h4k => simp only [List.getElem?_toArray]; rfl
  case f4k => kernel_rfl
  case r4k => kernel_rfl
  case w4k => rfl
  case y4k => (intro u hu; (go_simp) <;> with_reducible rfl)
  try simp only [Act.put, List.setIfInBounds_toArray, List.set_cons_zero, List.set_cons_succ]
  clear heq E4 HY4
  refine wpAnyH_take (i := 5) (oi := ?o5k) (v := ?v5k) ?h5k (by kernel_rfl) ?f5k ?r5k (fun _ _ _ h => h) (Or.inl ⟨?w5k, ?y5k⟩) (by assumption) ?t5k
  case h5k => simp only [List.getElem?_toArray]; rfl
  case f5k => kernel_rfl
  case r5k => kernel_rfl
  case w5k => rfl
  case y5k => (intro u hu; (go_simp) <;> with_reducible rfl)
  try simp only [Act.put, List.setIfInBounds_toArray, List.set_cons_zero, List.set_cons_succ]
  refine wpAnyH_take (i := 6) (oi := ?o6k) (v := ?v6k) ?h6k (by kernel_rfl) ?f6k ?r6k (fun _ _ _ h => h) (Or.inl ⟨?w6k, ?y6k⟩) (by assumption) ?t6k
  case h6k => simp only [List.getElem?_toArray]; rfl
  case f6k => kernel_rfl
  case r6k => kernel_rfl
  case w6k => rfl
  case y6k => (intro u hu; (go_simp) <;> with_reducible rfl)
  try simp only [Act.put, List.setIfInBounds_toArray, List.set_cons_zero, List.set_cons_succ]
  refine wpAnyH_take (i := 7) (oi := ?o7k) (v := .agg (List.map (Value.int .u8) l3).toArray) ?h7k (by kernel_rfl) ?f7k ?r7k (fun _ _ _ h => h) ?y7k (by assumption) ?t7k
  case h7k => simp only [List.getElem?_toArray]; rfl
  case f7k => kernel_rfl
  case r7k => kernel_rfl
  case y7k => exact yieldsIf_load_mid (by rfl) 22 (.tmp 2) rfl b2 0 rfl (List.map (Value.int .u8) l3) _ (fun u hu => range_later hu Ab2.out.rng) Tryd.underlying22 rfl hi2
  try simp only [Act.put, List.setIfInBounds_toArray, List.set_cons_zero, List.set_cons_succ]
  refine wpAnyH_take (i := 9) (oi := ?o9k) (v := .agg (List.map (Value.int .u8) l3).toArray) ?h9k (by kernel_rfl) ?f9k ?r9k (fun _ _ _ h => h) ?y9k (by assumption) ?t9k
  case h9k => simp only [List.getElem?_toArray]; rfl
  case f9k => kernel_rfl
  case r9k => kernel_rfl
  case y9k => exact yieldsIf_load_mid (by rfl) 22 (.tmp 2) rfl b2 0 rfl (List.map (Value.int .u8) l3) _ (fun u hu => range_later hu Ab2.out.rng) Tryd.underlying22 rfl hi2
  try simp only [Act.put, List.setIfInBounds_toArray, List.set_cons_zero, List.set_cons_succ]
  refine wpAnyH_take (i := 10) (oi := ?o10k) (v := ?v10k) ?h10k (by kernel_rfl) ?f10k ?r10k (fun _ _ _ h => h) (Or.inl ⟨?w10k, ?y10k⟩) (by assumption) ?t10k
  case h10k => simp only [List.getElem?_toArray]; rfl
  case f10k => kernel_rfl
  case r10k => kernel_rfl
  case w10k => rfl
  case y10k => (intro u hu; (go_simp) <;> with_reducible rfl)
  try simp only [Act.put, List.setIfInBounds_toArray, List.set_cons_zero, List.set_cons_succ]
  refine wpAnyH_ready (rs := [8]) (by kernel_rfl) (by simp) ?_
  refine AllReadyH.cons (o := ?o8k) ?h8k (fun K hK => ?_) AllReadyH.nil
  case h8k => simp only [List.getElem?_toArray]; rfl
  go_simp
  refine (public_l l3 HY3.out _).mono ?_
  rintro e V9 ⟨z2, rfl, -, HZ2, hb⟩
  refine hK.out _ _ (hH.trans hb) (fun hH' => ?_)
  clear hK K hH
  have hH := hH'
  clear hH'
  try simp only [List.setIfInBounds_toArray, List.set]
  clear hb
  try rw [bz_arr 9]
  refine wpAnyH_ready (rs := [11]) (by kernel_rfl) (by simp) ?_
  refine AllReadyH.cons (o := ?o11k) ?h11k (fun K hK => ?_) AllReadyH.nil
  case h11k => simp only [List.getElem?_toArray]; rfl
  go_simp
  try rw [bz_arr 9]
  refine (x_l l3 (bz 9) HY3.out (bz_by 9 (by decide) (by decide)) _).mono ?_
  rintro e V10 ⟨z3, rfl, -, HZ3, hb⟩
  refine hK.out _ _ (hH.trans hb) (fun hH' => ?_)
  clear hK K hH
  have hH := hH'
  clear hH'
  try simp only [List.setIfInBounds_toArray, List.set]
  clear hb
  have ez : z3 = z2 := by rw [HZ3.out, HZ2.out, num_bz 9 (by decide) (by decide)]
  rw [ez]
  clear HZ3 ez z3
  have heq : ∀ u, Sem.run Tryd.prog (binOp .eql 22 (.agg (List.map (Value.int .u8) (lay 32 z2)).toArray) (.agg (List.map (Value.int .u8) (lay 32 z2)).toArray)) u = .ok (.bool true) u := fun u => eql_same _ _ (lay_by _) (lay_by _) rfl u
  refine wpAnyH_take (i := 12) (oi := ?o12k) (v := ?v12k) ?h12k (by kernel_rfl) ?f12k ?r12k (fun _ _ _ h => h) (Or.inl ⟨?w12k, ?y12k⟩) (by assumption) ?t12k
  case h12k => simp only [List.getElem?_toArray]; rfl
  case f12k => kernel_rfl
  case r12k => kernel_rfl
  case w12k => rfl
  case y12k => (intro u hu; (go_simp) <;> with_reducible rfl)
  try simp only [Act.put, List.setIfInBounds_toArray, List.set_cons_zero, List.set_cons_succ]
  clear heq
  refine wpAnyH_take (i := 13) (oi := ?o13k) (v := ?v13k) ?h13k (by kernel_rfl) ?f13k ?r13k (fun _ _ _ h => h) (Or.inl ⟨?w13k, ?y13k⟩) (by assumption) ?t13k
  case h13k => simp only [List.getElem?_toArray]; rfl
  case f13k => kernel_rfl
  case r13k => kernel_rfl
  case w13k => rfl
  case y13k => (intro u hu; (go_simp) <;> with_reducible rfl)
  try simp only [Act.put, List.setIfInBounds_toArray, List.set_cons_zero, List.set_cons_succ]
  refine wpAnyH_take (i := 14) (oi := ?o14k) (v := ?v14k) ?h14k (by kernel_rfl) ?f14k ?r14k (fun _ _ _ h => h) (Or.inl ⟨?w14k, ?y14k⟩) (by assumption) ?t14k
  case h14k => simp only [List.getElem?_toArray]; rfl
  case f14k => kernel_rfl
  case r14k => kernel_rfl
  case w14k => rfl
  case y14k => (intro u hu; (go_simp) <;> with_reducible rfl)
  try simp only [Act.put, List.setIfInBounds_toArray, List.set_cons_zero, List.set_cons_succ]
  refine wpAnyH_take (i := 15) (oi := ?o15k) (v := .agg (List.map (Value.int .u8) l3).toArray) ?h15k (by kernel_rfl) ?f15k ?r15k (fun _ _ _ h => h) ?y15k (by assumption) ?t15k
  case h15k => simp only [List.getElem?_toArray]; rfl
  case f15k => kernel_rfl
  case r15k => kernel_rfl
  case y15k => exact yieldsIf_load_mid (by rfl) 22 (.tmp 2) rfl b2 0 rfl (List.map (Value.int .u8) l3) _ (fun u hu => range_later hu Ab2.out.rng) Tryd.underlying22 rfl hi2
  try simp only [Act.put, List.setIfInBounds_toArray, List.set_cons_zero, List.set_cons_succ]
  refine wpAnyH_take (i := 17) (oi := ?o17k) (v := .agg (List.map (Value.int .u8) l3).toArray) ?h17k (by kernel_rfl) ?f17k ?r17k (fun _ _ _ h => h) ?y17k (by assumption) ?t17k
  case h17k => simp only [List.getElem?_toArray]; rfl
  case f17k => kernel_rfl
  case r17k => kernel_rfl
  case y17k => exact yieldsIf_load_mid (by rfl) 22 (.tmp 2) rfl b2 0 rfl (List.map (Value.int .u8) l3) _ (fun u hu => range_later hu Ab2.out.rng) Tryd.underlying22 rfl hi2
  try simp only [Act.put, List.setIfInBounds_toArray, List.set_cons_zero, List.set_cons_succ]
  refine wpAnyH_ready (rs := [16]) (by kernel_rfl) (by simp) ?_
  refine AllReadyH.cons (o := ?o16k) ?h16k (fun K hK => ?_) AllReadyH.nil
  case h16k => simp only [List.getElem?_toArray]; rfl
  go_simp
  refine (public_l l3 HY3.out _).mono ?_
  rintro e V11 ⟨z4, rfl, -, HZ4, hb⟩
  refine hK.out _ _ (hH.trans hb) (fun hH' => ?_)
  clear hK K hH
  have hH := hH'
  clear hH'
  try simp only [List.setIfInBounds_toArray, List.set]
  clear hb
  refine wpAnyH_ready (rs := [18]) (by kernel_rfl) (by simp) ?_
  refine AllReadyH.cons (o := ?o18k) ?h18k (fun K hK => ?_) AllReadyH.nil
  case h18k => simp only [List.getElem?_toArray]; rfl
  go_simp
  refine (rpublic_l l3 HY3.out _ (HG.out.later hH)).mono ?_
  rintro e V12 ⟨z5, rfl, HZ5, hb⟩
  refine hK.out _ _ (hH.trans hb) (fun hH' => ?_)
  clear hK K hH
  have hH := hH'
  clear hH'
  try simp only [List.setIfInBounds_toArray, List.set]
  clear hb
  have ez : z5 = z4 := by rw [HZ5.out, HZ4.out]
  rw [ez]
  clear HZ5 ez z5
  have heq : ∀ u, Sem.run Tryd.prog (binOp .eql 22 (.agg (List.map (Value.int .u8) (lay 32 z4)).toArray) (.agg (List.map (Value.int .u8) (lay 32 z4)).toArray)) u = .ok (.bool true) u := fun u => eql_same _ _ (lay_by _) (lay_by _) rfl u
  refine wpAnyH_take (i := 19) (oi := ?o19k) (v := ?v19k) ?h19k (by kernel_rfl) ?f19k ?r19k (fun _ _ _ h => h) (Or.inl ⟨?w19k, ?y19k⟩) (by assumption) ?t19k
  case h19k => simp only [List.getElem?_toArray]; rfl
  case f19k => kernel_rfl
  case r19k => kernel_rfl
  case w19k => rfl
  case y19k => (intro u hu; (go_simp) <;> with_reducible rfl)
  try simp only [Act.put, List.setIfInBounds_toArray, List.set_cons_zero, List.set_cons_succ]
  clear heq
  refine wpAnyH_take (i := 20) (oi := ?o20k) (v := ?v20k) ?h20k (by kernel_rfl) ?f20k ?r20k (fun _ _ _ h => h) (Or.inl ⟨?w20k, ?y20k⟩) (by assumption) ?t20k
  case h20k => simp only [List.getElem?_toArray]; rfl
  case f20k => kernel_rfl
  case r20k => kernel_rfl
  case w20k => rfl
  case y20k => (intro u hu; (go_simp) <;> with_reducible rfl)
  try simp only [Act.put, List.setIfInBounds_toArray, List.set_cons_zero, List.set_cons_succ]
  refine wpAnyH_take (i := 21) (oi := ?o21k) (v := ?v21k) ?h21k (by kernel_rfl) ?f21k ?r21k (fun _ _ _ h => h) (Or.inl ⟨?w21k, ?y21k⟩) (by assumption) ?t21k
  case h21k => simp only [List.getElem?_toArray]; rfl
  case f21k => kernel_rfl
  case r21k => kernel_rfl
  case w21k => rfl
  case y21k => (intro u hu; (go_simp) <;> with_reducible rfl)
  try simp only [Act.put, List.setIfInBounds_toArray, List.set_cons_zero, List.set_cons_succ]
  refine wpAnyH_done (by kernel_rfl) ?_ _
  refine NoPanic.normal ?_
  replace HB := HB.out.trans (Below.mono hH HB.out.size)
  clear hH
  go_wp2
  go_ret
  exact ⟨rfl, HB⟩
end Go.Proofs.YtggjifpcoidipaaDoor
