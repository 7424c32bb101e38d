/-
  The walk of FieldInverts: true for whatever bytes and numbers. No statement of the seat is proved here.
-/
import Derived.Test.YtgnfbnjhmiggbaaFLawM
namespace Go.Proofs.Ytgnfbnjhmiggbaa
open Go.RowKit

set_option maxHeartbeats 8000000 in
theorem fieldInverts_walk (a b : List Int) (n : Int) (ha : By a) (hb : By b) (hn : -9223372036854775808 ≤ n ∧ n ≤ 9223372036854775807) (w : World) :
    Calls Try.prog 9 #[(.agg (List.map (Value.int .u8) a).toArray), (.agg (List.map (Value.int .u8) b).toArray), .int .i64 n] w fun e w' => e = .returned (.bool true) ∧ Below w.heap.size w w' := by
  go_enter Try.func9, Try.ntmps9
  go_upto_region 1 with fail
  have HB : Hid (Below w.heap.size w ((w.alloc (.cells (List.map (Value.int .u8) a).toArray 22)).alloc (.cells (List.map (Value.int .u8) b).toArray 22))) := bel2 _ _ _
  have A3 : Hid (Arr ((w.alloc (.cells (List.map (Value.int .u8) a).toArray 22)).alloc (.cells (List.map (Value.int .u8) b).toArray 22)) (w.heap.size) (List.map (Value.int .u8) a)) := by
    have := (arr_box w a ha).later (bel1 _ (.cells (List.map (Value.int .u8) b).toArray 22))
    simpa [Hid] using this
  have A4 : Hid (Arr ((w.alloc (.cells (List.map (Value.int .u8) a).toArray 22)).alloc (.cells (List.map (Value.int .u8) b).toArray 22)) (w.heap.size + 1) (List.map (Value.int .u8) b)) := by
    have := (arr_box (w.alloc (.cells (List.map (Value.int .u8) a).toArray 22)) b hb)
    simpa [Hid] using this
  generalize (w.alloc (.cells (List.map (Value.int .u8) a).toArray 22)).alloc (.cells (List.map (Value.int .u8) b).toArray 22) = W0 at *
  go_wp2_with (first | (refine wpList_load_mid rfl 22 (.tmp 3) rfl (w.heap.size) 0 rfl (List.map (Value.int .u8) a) _ A3.out.rng Try.underlying22 rfl (by_cells ha).2.2 ?_))
  refine (edge_any a ha n hn _).mono ?_
  rintro e u1_0 ⟨l11, rfl, hl11, hb1_0⟩
  have hc1_1 : Hid (Below W0.heap.size W0 u1_0) := hb1_0
  clear hb1_0
  go_wp2_with fail
  refine (from_e l11 hl11 _).mono ?_
  rintro e u1_1 ⟨z12, rfl, hz12, Hz12, hb1_1⟩
  have hc1_2 : Hid (Below W0.heap.size W0 u1_1) := hc1_1.out.trans ((hb1_1).mono hc1_1.out.size)
  clear hb1_1 hc1_1
  go_upto_region 2 with fail
  have hX : Hid (Below W0.heap.size W0 (u1_1.alloc (.cells #[.int .u64 (e0 z12), .int .u64 (e1 z12), .int .u64 (e2 z12), .int .u64 (e3 z12)] 28))) := hc1_2.out.trans ((bel1 u1_1 _).mono hc1_2.out.size)
  have V7 : Hid (Var (u1_1.alloc (.cells #[.int .u64 (e0 z12), .int .u64 (e1 z12), .int .u64 (e2 z12), .int .u64 (e3 z12)] 28)) (u1_1.heap.size) z12) := var_new u1_1 z12 _
  have hge7 : w.heap.size ≤ u1_1.heap.size := Nat.le_trans HB.out.size hc1_2.out.size
  generalize u1_1.alloc (.cells #[.int .u64 (e0 z12), .int .u64 (e1 z12), .int .u64 (e2 z12), .int .u64 (e3 z12)] 28) = W7 at *
  generalize u1_1.heap.size = b7 at *
  replace A3 : Hid (Arr W7 (w.heap.size) (List.map (Value.int .u8) a)) := A3.out.later hX.out
  replace A4 : Hid (Arr W7 (w.heap.size + 1) (List.map (Value.int .u8) b)) := A4.out.later hX.out
  replace HB : Hid (Below w.heap.size w W7) := HB.out.trans (Below.mono hX.out HB.out.size)
  clear hX hc1_2
  go_wp2_with (first | (refine wpList_load_mid rfl 22 (.tmp 4) rfl (w.heap.size + 1) 0 rfl (List.map (Value.int .u8) b) _ A4.out.rng Try.underlying22 rfl (by_cells hb).2.2 ?_))
  refine (from_e b hb _).mono ?_
  rintro e u2_0 ⟨z14, rfl, hz14, Hz14, hb2_0⟩
  have hc2_1 : Hid (Below W7.heap.size W7 u2_0) := hb2_0
  clear hb2_0
  try clear V7c0 V7c1 V7c2 V7c3
  go_upto_region 3 with fail
  have hX : Hid (Below W7.heap.size W7 (u2_0.alloc (.cells #[.int .u64 (e0 z14), .int .u64 (e1 z14), .int .u64 (e2 z14), .int .u64 (e3 z14)] 28))) := hc2_1.out.trans ((bel1 u2_0 _).mono hc2_1.out.size)
  have V8 : Hid (Var (u2_0.alloc (.cells #[.int .u64 (e0 z14), .int .u64 (e1 z14), .int .u64 (e2 z14), .int .u64 (e3 z14)] 28)) (u2_0.heap.size) z14) := var_new u2_0 z14 _
  have hge8 : w.heap.size ≤ u2_0.heap.size := Nat.le_trans HB.out.size hc2_1.out.size
  have lt8_V7 : b7 < u2_0.heap.size := (V7.out.later hc2_1.out).lt
  generalize u2_0.alloc (.cells #[.int .u64 (e0 z14), .int .u64 (e1 z14), .int .u64 (e2 z14), .int .u64 (e3 z14)] 28) = W8 at *
  generalize u2_0.heap.size = b8 at *
  replace V7 : Hid (Var W8 b7 z12) := V7.out.later hX.out
  replace A3 : Hid (Arr W8 (w.heap.size) (List.map (Value.int .u8) a)) := A3.out.later hX.out
  replace A4 : Hid (Arr W8 (w.heap.size + 1) (List.map (Value.int .u8) b)) := A4.out.later hX.out
  replace HB : Hid (Below w.heap.size w W8) := HB.out.trans (Below.mono hX.out HB.out.size)
  clear hX hc2_1
  obtain ⟨V7c0, V7c1, V7c2, V7c3⟩ := V7.out
  have V7u0 : ∀ u, Ext W8 u → u.cell? ⟨b7, 0, none⟩ = some (.int .u64 (e0 z12)) := fun u hu => hu.cell V7c0
  have V7u1 : ∀ u, Ext W8 u → u.cell? ⟨b7, 1, none⟩ = some (.int .u64 (e1 z12)) := fun u hu => hu.cell V7c1
  have V7u2 : ∀ u, Ext W8 u → u.cell? ⟨b7, 2, none⟩ = some (.int .u64 (e2 z12)) := fun u hu => hu.cell V7c2
  have V7u3 : ∀ u, Ext W8 u → u.cell? ⟨b7, 3, none⟩ = some (.int .u64 (e3 z12)) := fun u hu => hu.cell V7c3
  clear V7c0 V7c1 V7c2 V7c3
  obtain ⟨V8c0, V8c1, V8c2, V8c3⟩ := V8.out
  have V8u0 : ∀ u, Ext W8 u → u.cell? ⟨b8, 0, none⟩ = some (.int .u64 (e0 z14)) := fun u hu => hu.cell V8c0
  have V8u1 : ∀ u, Ext W8 u → u.cell? ⟨b8, 1, none⟩ = some (.int .u64 (e1 z14)) := fun u hu => hu.cell V8c1
  have V8u2 : ∀ u, Ext W8 u → u.cell? ⟨b8, 2, none⟩ = some (.int .u64 (e2 z14)) := fun u hu => hu.cell V8c2
  have V8u3 : ∀ u, Ext W8 u → u.cell? ⟨b8, 3, none⟩ = some (.int .u64 (e3 z14)) := fun u hu => hu.cell V8c3
  clear V8c0 V8c1 V8c2 V8c3
  refine wp_region_noPanic ?_
  refine wp_region_held_drew (S := Ext W8) (by kernel_rfl) (Ext.refl _).drew (fun hH => ?_)
  refine wpAnyH_ready (rs := [0]) (by kernel_rfl) (by simp) ?_
  refine AllReadyH.cons (o := ?o0r3) ?h0r3 (fun K hK => ?_) AllReadyH.nil
  case h0r3 => simp only [List.getElem?_toArray, List.getElem?_cons_zero]; rfl
  go_simp
  refine (known_any _).mono ?_
  rintro e c3_0 ⟨rfl, hb3_0⟩
  refine hK.out _ _ (hH.trans hb3_0) (fun hH' => ?_)
  clear hK K hH
  have hH := hH'
  clear hH'
  try simp only [Act.put, List.setIfInBounds_toArray, List.set_cons_zero, List.set_cons_succ]
  clear hb3_0
  refine wpAnyH_take (i := 1) (oi := ?o1r3) (v := ?v1r3) ?h1r3 (by kernel_rfl) ?f1r3 ?r1r3 (fun _ _ _ h => h) (Or.inl ⟨?w1r3, ?y1r3⟩) (by assumption) ?t1r3
  case h1r3 => simp only [List.getElem?_toArray, List.getElem?_cons_succ, List.getElem?_cons_zero]; rfl
  case f1r3 => kernel_rfl
  case r1r3 => kernel_rfl
  case w1r3 => rfl
  case y1r3 => (intro u hu; (go_simp) <;> with_reducible rfl)
  try simp only [Act.put, List.setIfInBounds_toArray, List.set_cons_zero, List.set_cons_succ]
  refine wpAnyH_take (i := 2) (oi := ?o2r3) (v := ?v2r3) ?h2r3 (by kernel_rfl) ?f2r3 ?r2r3 (fun _ _ _ h => h) (Or.inl ⟨?w2r3, ?y2r3⟩) (by assumption) ?t2r3
  case h2r3 => simp only [List.getElem?_toArray, List.getElem?_cons_succ, List.getElem?_cons_zero]; rfl
  case f2r3 => kernel_rfl
  case r2r3 => kernel_rfl
  case w2r3 => rfl
  case y2r3 => (intro u hu; (go_simp) <;> with_reducible rfl)
  try simp only [Act.put, List.setIfInBounds_toArray, List.set_cons_zero, List.set_cons_succ]
  refine wpAnyH_take (i := 5) (oi := ?o5r3) (v := ?v5r3) ?h5r3 (by kernel_rfl) ?f5r3 ?r5r3 (fun _ _ _ h => h) (Or.inl ⟨?w5r3, ?y5r3⟩) (by assumption) ?t5r3
  case h5r3 => simp only [List.getElem?_toArray, List.getElem?_cons_succ, List.getElem?_cons_zero]; rfl
  case f5r3 => kernel_rfl
  case r5r3 => kernel_rfl
  case w5r3 => rfl
  case y5r3 => (intro u hu; (go_simp) <;> with_reducible rfl)
  try simp only [Act.put, List.setIfInBounds_toArray, List.set_cons_zero, List.set_cons_succ]
  refine wpAnyH_ready (rs := [3]) (by kernel_rfl) (by simp) ?_
  refine AllReadyH.cons (o := ?o3r3) ?h3r3 (fun K hK => ?_) AllReadyH.nil
  case h3r3 => simp only [List.getElem?_toArray, List.getElem?_cons_succ, List.getElem?_cons_zero]; rfl
  go_simp
  refine (invert_e z12 hz12 _).mono ?_
  rintro e c3_3 ⟨z18, rfl, hz18, Hz18, hb3_3⟩
  refine hK.out _ _ (hH.trans hb3_3) (fun hH' => ?_)
  clear hK K hH
  have hH := hH'
  clear hH'
  try simp only [Act.put, List.setIfInBounds_toArray, List.set_cons_zero, List.set_cons_succ]
  clear hb3_3
  refine wpAnyH_ready (rs := [4]) (by kernel_rfl) (by simp) ?_
  refine AllReadyH.cons (o := ?o4r3) ?h4r3 (fun K hK => ?_) AllReadyH.nil
  case h4r3 => simp only [List.getElem?_toArray, List.getElem?_cons_succ, List.getElem?_cons_zero]; rfl
  go_simp
  refine (invert_e z18 hz18 _).mono ?_
  rintro e c3_4 ⟨z19, rfl, hz19, Hz19, hb3_4⟩
  refine hK.out _ _ (hH.trans hb3_4) (fun hH' => ?_)
  clear hK K hH
  have hH := hH'
  clear hH'
  try simp only [Act.put, List.setIfInBounds_toArray, List.set_cons_zero, List.set_cons_succ]
  clear hb3_4
  refine wpAnyH_ready (rs := [6]) (by kernel_rfl) (by simp) ?_
  refine AllReadyH.cons (o := ?o6r3) ?h6r3 (fun K hK => ?_) AllReadyH.nil
  case h6r3 => simp only [List.getElem?_toArray, List.getElem?_cons_succ, List.getElem?_cons_zero]; rfl
  go_simp
  refine (equal_e z19 z12 hz19 hz12 _).mono ?_
  rintro e c3_6 ⟨rfl, hb3_6⟩
  rw [show same z19 z12 = true from same_t (by rw [Hz19.out, Hz18.out, inv_inv _ hz12])]
  refine hK.out _ _ (hH.trans hb3_6) (fun hH' => ?_)
  clear hK K hH
  have hH := hH'
  clear hH'
  try simp only [Act.put, List.setIfInBounds_toArray, List.set_cons_zero, List.set_cons_succ]
  clear hb3_6
  refine wpAnyH_take (i := 7) (oi := ?o7r3) (v := ?v7r3) ?h7r3 (by kernel_rfl) ?f7r3 ?r7r3 (fun _ _ _ h => h) (Or.inl ⟨?w7r3, ?y7r3⟩) (by assumption) ?t7r3
  case h7r3 => simp only [List.getElem?_toArray, List.getElem?_cons_succ, List.getElem?_cons_zero]; rfl
  case f7r3 => kernel_rfl
  case r7r3 => kernel_rfl
  case w7r3 => rfl
  case y7r3 => (intro u hu; (go_simp) <;> with_reducible rfl)
  try simp only [Act.put, List.setIfInBounds_toArray, List.set_cons_zero, List.set_cons_succ]
  refine wpAnyH_take (i := 8) (oi := ?o8r3) (v := ?v8r3) ?h8r3 (by kernel_rfl) ?f8r3 ?r8r3 (fun _ _ _ h => h) (Or.inl ⟨?w8r3, ?y8r3⟩) (by assumption) ?t8r3
  case h8r3 => simp only [List.getElem?_toArray, List.getElem?_cons_succ, List.getElem?_cons_zero]; rfl
  case f8r3 => kernel_rfl
  case r8r3 => kernel_rfl
  case w8r3 => rfl
  case y8r3 => (intro u hu; (go_simp) <;> with_reducible rfl)
  try simp only [Act.put, List.setIfInBounds_toArray, List.set_cons_zero, List.set_cons_succ]
  refine wpAnyH_take (i := 9) (oi := ?o9r3) (v := ?v9r3) ?h9r3 (by kernel_rfl) ?f9r3 ?r9r3 (fun _ _ _ h => h) (Or.inl ⟨?w9r3, ?y9r3⟩) (by assumption) ?t9r3
  case h9r3 => simp only [List.getElem?_toArray, List.getElem?_cons_succ, List.getElem?_cons_zero]; rfl
  case f9r3 => kernel_rfl
  case r9r3 => kernel_rfl
  case w9r3 => rfl
  case y9r3 => (intro u hu; (go_simp) <;> with_reducible rfl)
  try simp only [Act.put, List.setIfInBounds_toArray, List.set_cons_zero, List.set_cons_succ]
  refine wpAnyH_take (i := 10) (oi := ?o10r3) (v := ?v10r3) ?h10r3 (by kernel_rfl) ?f10r3 ?r10r3 (fun _ _ _ h => h) (Or.inl ⟨?w10r3, ?y10r3⟩) (by assumption) ?t10r3
  case h10r3 => simp only [List.getElem?_toArray, List.getElem?_cons_succ, List.getElem?_cons_zero]; rfl
  case f10r3 => kernel_rfl
  case r10r3 => kernel_rfl
  case w10r3 => rfl
  case y10r3 => (intro u hu; (go_simp) <;> with_reducible rfl)
  try simp only [Act.put, List.setIfInBounds_toArray, List.set_cons_zero, List.set_cons_succ]
  refine wpAnyH_take (i := 13) (oi := ?o13r3) (v := ?v13r3) ?h13r3 (by kernel_rfl) ?f13r3 ?r13r3 (fun _ _ _ h => h) (Or.inl ⟨?w13r3, ?y13r3⟩) (by assumption) ?t13r3
  case h13r3 => simp only [List.getElem?_toArray, List.getElem?_cons_succ, List.getElem?_cons_zero]; rfl
  case f13r3 => kernel_rfl
  case r13r3 => kernel_rfl
  case w13r3 => rfl
  case y13r3 => (intro u hu; (go_simp) <;> with_reducible rfl)
  try simp only [Act.put, List.setIfInBounds_toArray, List.set_cons_zero, List.set_cons_succ]
  refine wpAnyH_take (i := 15) (oi := ?o15r3) (v := ?v15r3) ?h15r3 (by kernel_rfl) ?f15r3 ?r15r3 (fun _ _ _ h => h) (Or.inl ⟨?w15r3, ?y15r3⟩) (by assumption) ?t15r3
  case h15r3 => simp only [List.getElem?_toArray, List.getElem?_cons_succ, List.getElem?_cons_zero]; rfl
  case f15r3 => kernel_rfl
  case r15r3 => kernel_rfl
  case w15r3 => rfl
  case y15r3 => (intro u hu; (go_simp) <;> with_reducible rfl)
  try simp only [Act.put, List.setIfInBounds_toArray, List.set_cons_zero, List.set_cons_succ]
  refine wpAnyH_ready (rs := [11]) (by kernel_rfl) (by simp) ?_
  refine AllReadyH.cons (o := ?o11r3) ?h11r3 (fun K hK => ?_) AllReadyH.nil
  case h11r3 => simp only [List.getElem?_toArray, List.getElem?_cons_succ, List.getElem?_cons_zero]; rfl
  go_simp
  refine (mul_e z12 z14 hz12 hz14 _).mono ?_
  rintro e c3_11 ⟨z26, rfl, hz26, Hz26, hb3_11⟩
  refine hK.out _ _ (hH.trans hb3_11) (fun hH' => ?_)
  clear hK K hH
  have hH := hH'
  clear hH'
  try simp only [Act.put, List.setIfInBounds_toArray, List.set_cons_zero, List.set_cons_succ]
  clear hb3_11
  refine wpAnyH_ready (rs := [12]) (by kernel_rfl) (by simp) ?_
  refine AllReadyH.cons (o := ?o12r3) ?h12r3 (fun K hK => ?_) AllReadyH.nil
  case h12r3 => simp only [List.getElem?_toArray, List.getElem?_cons_succ, List.getElem?_cons_zero]; rfl
  go_simp
  refine (invert_e z26 hz26 _).mono ?_
  rintro e c3_12 ⟨z27, rfl, hz27, Hz27, hb3_12⟩
  refine hK.out _ _ (hH.trans hb3_12) (fun hH' => ?_)
  clear hK K hH
  have hH := hH'
  clear hH'
  try simp only [Act.put, List.setIfInBounds_toArray, List.set_cons_zero, List.set_cons_succ]
  clear hb3_12
  refine wpAnyH_ready (rs := [14]) (by kernel_rfl) (by simp) ?_
  refine AllReadyH.cons (o := ?o14r3) ?h14r3 (fun K hK => ?_) AllReadyH.nil
  case h14r3 => simp only [List.getElem?_toArray, List.getElem?_cons_succ, List.getElem?_cons_zero]; rfl
  go_simp
  refine (invert_e z12 hz12 _).mono ?_
  rintro e c3_14 ⟨z29, rfl, hz29, Hz29, hb3_14⟩
  refine hK.out _ _ (hH.trans hb3_14) (fun hH' => ?_)
  clear hK K hH
  have hH := hH'
  clear hH'
  try simp only [Act.put, List.setIfInBounds_toArray, List.set_cons_zero, List.set_cons_succ]
  clear hb3_14
  refine wpAnyH_ready (rs := [16]) (by kernel_rfl) (by simp) ?_
  refine AllReadyH.cons (o := ?o16r3) ?h16r3 (fun K hK => ?_) AllReadyH.nil
  case h16r3 => simp only [List.getElem?_toArray, List.getElem?_cons_succ, List.getElem?_cons_zero]; rfl
  go_simp
  refine (invert_e z14 hz14 _).mono ?_
  rintro e c3_16 ⟨z31, rfl, hz31, Hz31, hb3_16⟩
  refine hK.out _ _ (hH.trans hb3_16) (fun hH' => ?_)
  clear hK K hH
  have hH := hH'
  clear hH'
  try simp only [Act.put, List.setIfInBounds_toArray, List.set_cons_zero, List.set_cons_succ]
  clear hb3_16
  refine wpAnyH_ready (rs := [17]) (by kernel_rfl) (by simp) ?_
  refine AllReadyH.cons (o := ?o17r3) ?h17r3 (fun K hK => ?_) AllReadyH.nil
  case h17r3 => simp only [List.getElem?_toArray, List.getElem?_cons_succ, List.getElem?_cons_zero]; rfl
  go_simp
  refine (mul_e z29 z31 hz29 hz31 _).mono ?_
  rintro e c3_17 ⟨z32, rfl, hz32, Hz32, hb3_17⟩
  refine hK.out _ _ (hH.trans hb3_17) (fun hH' => ?_)
  clear hK K hH
  have hH := hH'
  clear hH'
  try simp only [Act.put, List.setIfInBounds_toArray, List.set_cons_zero, List.set_cons_succ]
  clear hb3_17
  refine wpAnyH_ready (rs := [18]) (by kernel_rfl) (by simp) ?_
  refine AllReadyH.cons (o := ?o18r3) ?h18r3 (fun K hK => ?_) AllReadyH.nil
  case h18r3 => simp only [List.getElem?_toArray, List.getElem?_cons_succ, List.getElem?_cons_zero]; rfl
  go_simp
  refine (equal_e z27 z32 hz27 hz32 _).mono ?_
  rintro e c3_18 ⟨rfl, hb3_18⟩
  rw [show same z27 z32 = true from same_t (by rw [Hz27.out, Hz26.out, Hz32.out, Hz29.out, Hz31.out, pw_mul_base])]
  refine hK.out _ _ (hH.trans hb3_18) (fun hH' => ?_)
  clear hK K hH
  have hH := hH'
  clear hH'
  try simp only [Act.put, List.setIfInBounds_toArray, List.set_cons_zero, List.set_cons_succ]
  clear hb3_18
  refine wpAnyH_take (i := 19) (oi := ?o19r3) (v := ?v19r3) ?h19r3 (by kernel_rfl) ?f19r3 ?r19r3 (fun _ _ _ h => h) (Or.inl ⟨?w19r3, ?y19r3⟩) (by assumption) ?t19r3
  case h19r3 => simp only [List.getElem?_toArray, List.getElem?_cons_succ, List.getElem?_cons_zero]; rfl
  case f19r3 => kernel_rfl
  case r19r3 => kernel_rfl
  case w19r3 => rfl
  case y19r3 => (intro u hu; (go_simp) <;> with_reducible rfl)
  try simp only [Act.put, List.setIfInBounds_toArray, List.set_cons_zero, List.set_cons_succ]
  refine wpAnyH_take (i := 20) (oi := ?o20r3) (v := ?v20r3) ?h20r3 (by kernel_rfl) ?f20r3 ?r20r3 (fun _ _ _ h => h) (Or.inl ⟨?w20r3, ?y20r3⟩) (by assumption) ?t20r3
  case h20r3 => simp only [List.getElem?_toArray, List.getElem?_cons_succ, List.getElem?_cons_zero]; rfl
  case f20r3 => kernel_rfl
  case r20r3 => kernel_rfl
  case w20r3 => rfl
  case y20r3 => (intro u hu; (go_simp) <;> with_reducible rfl)
  try simp only [Act.put, List.setIfInBounds_toArray, List.set_cons_zero, List.set_cons_succ]
  refine wpAnyH_done (by kernel_rfl) ?_ _
  refine NoPanic.normal ?_
  go_wp2
  go_ret
  exact ⟨rfl, HB.out.trans (Below.mono hH HB.out.size)⟩
end Go.Proofs.Ytgnfbnjhmiggbaa
