/-
  AeadLong's walk. No statement of the seat is proved here.
-/
import Derived.Test.YtppmodncljigcaaA6K
namespace Go.Proofs.Ytppmodncljigcaa
open Go.RowKit

set_option maxRecDepth 8000 in
set_option maxHeartbeats 4000000 in
theorem aeadLong_walk (key : List Int) (n m lg : Int) (hk : Bn 32 key) (hn : -9223372036854775808 ≤ n ∧ n ≤ 9223372036854775807) (hm : -9223372036854775808 ≤ m ∧ m ≤ 9223372036854775807) (hl : -9223372036854775808 ≤ lg ∧ lg ≤ 9223372036854775807) (w : World) :
    Calls Try.prog 7 #[(.agg (List.map (Value.int .u8) key).toArray), .int .i64 n, .int .i64 m, .int .i64 lg] w fun e w' => e = .returned (.bool true) ∧ Below w.heap.size w w' := by
  have HK : Hid (Bn 32 key) := hk
  clear hk
  obtain ⟨_, _, hiK⟩ := bn32_cells HK.out
  obtain ⟨z, hz⟩ : ∃ z, IntKind.u64.wrap lg = z := ⟨_, rfl⟩
  have z0 : 0 ≤ z := by rw [← hz, IntKind.wrap_u64]; omega
  have z1 : z < 18446744073709551616 := by rw [← hz, IntKind.wrap_u64]; omega
  go_enter Try.func7, Try.ntmps7
  go_upto_region 1 with fail
  have AK : Hid (Ar (w.alloc (.cells (List.map (Value.int .u8) key).toArray 22)) w.heap.size 32 (List.map (Value.int .u8) key)) := ar_box w _ 32 HK.out.map_len _
  have HB : Hid (Below w.heap.size w (w.alloc (.cells (List.map (Value.int .u8) key).toArray 22))) := bel1 _ _
  generalize (w.alloc (.cells (List.map (Value.int .u8) key).toArray 22)) = W0 at *
  go_wp2_with fail
  refine (pick_any n 20 hn (by decide) _).mono ?_
  rintro e w' ⟨i0, rfl, p0, p1, hw⟩
  rw [hw]
  clear hw w'
  obtain ⟨p, rfl⟩ := Int.eq_ofNat_of_zero_le p0
  go_wp2_with fail
  refine (pick_any m 3 hm (by decide) _).mono ?_
  rintro e w' ⟨i0, rfl, q0, q1, hw⟩
  rw [hw]
  clear hw w'
  obtain ⟨q, rfl⟩ := Int.eq_ofNat_of_zero_le q0
  obtain ⟨B, hB⟩ : ∃ B : Nat, B = 64 * p + q := ⟨_, rfl⟩
  have hB1 : 64 * (p : Int) + (q : Int) = (B : Int) := by omega
  have hB2 : B ≤ 2000 := by omega
  clear hB
  go_wp2_with fail
  refine (bytes_c B lg (by omega) _).mono ?_
  rintro e V1 ⟨g1, text, rfl, HT0, HT1, hb⟩
  have OT : Hid (Ow V1 g1 B text) := ⟨⟨_, HT1.out⟩, HT0.out⟩
  clear HT0 HT1 hB1
  replace AK : Hid (Ar V1 w.heap.size 32 (List.map (Value.int .u8) key)) := AK.out.later hb
  replace HB : Hid (Below w.heap.size w V1) := HB.out.trans (hb.mono HB.out.size)
  clear hb
  go_wp2_with fail
  refine (pick_any m 5 hm (by decide) _).mono ?_
  rintro e w' ⟨i0, rfl, r0, r1, hw⟩
  rw [hw]
  clear hw w'
  obtain ⟨r, rfl⟩ := Int.eq_ofNat_of_zero_le r0
  go_wp2_with fail
  refine (pick_any lg 3 hl (by decide) _).mono ?_
  rintro e w' ⟨i0, rfl, s0, s1, hw⟩
  rw [hw]
  clear hw w'
  obtain ⟨s, rfl⟩ := Int.eq_ofNat_of_zero_le s0
  obtain ⟨A, hA⟩ : ∃ A : Nat, A = 16 * r + s := ⟨_, rfl⟩
  have hA1 : 16 * (r : Int) + (s : Int) = (A : Int) := by omega
  have hA2 : A ≤ 2000 := by omega
  clear hA
  go_wp2_with fail
  refine (bytes_c A n (by omega) _).mono ?_
  rintro e V2 ⟨g2, ad, rfl, HT0, HT1, hb⟩
  have OA : Hid (Ow V2 g2 A ad) := ⟨⟨_, HT1.out⟩, HT0.out⟩
  clear HT0 HT1 hA1
  replace AK : Hid (Ar V2 w.heap.size 32 (List.map (Value.int .u8) key)) := AK.out.later hb
  replace OT : Hid (Ow V2 g1 B text) := OT.out.later hb
  replace HB : Hid (Below w.heap.size w V2) := HB.out.trans (hb.mono HB.out.size)
  clear hb
  go_upto_region 3 with fail
  refine wp_region_noPanic ?_
  refine wp_region_held_drew (S := Ext V2) (by kernel_rfl) (Ext.refl _).drew (fun hH => ?_)
  change wpAnyH _ _ _ _ _ _ #[false, false, false, false, false, false, false, false] _ _
  refine wpAnyH_take (i := 0) (oi := ?o0s) (v := .agg (List.map (Value.int .u8) key).toArray) ?h0s (by kernel_rfl) ?f0s ?r0s (fun _ _ _ h => h) ?y0s (by assumption) ?t0s
  case h0s => simp only [List.getElem?_toArray]; rfl
  case f0s => kernel_rfl
  case r0s => kernel_rfl
  case y0s => exact yieldsIf_load_mid (by rfl) 22 (.tmp 4) rfl w.heap.size 0 rfl (List.map (Value.int .u8) key) _ (fun u hu => range_later hu AK.out.rng) Try.underlying22 rfl hiK
  try simp only [Act.put, List.setIfInBounds_toArray, List.set_cons_zero, List.set_cons_succ]
  refine wpAnyH_take (i := 1) (oi := ?o1s) (v := ?v1s) ?h1s (by kernel_rfl) ?f1s ?r1s (fun _ _ _ h => h) (Or.inl ⟨?w1s, ?y1s⟩) (by assumption) ?t1s
  case h1s => simp only [List.getElem?_toArray]; rfl
  case f1s => kernel_rfl
  case r1s => kernel_rfl
  case w1s => rfl
  case y1s => (intro u hu; (go_simp) <;> with_reducible rfl)
  try simp only [Act.put, List.setIfInBounds_toArray, List.set_cons_zero, List.set_cons_succ]
  refine wpAnyH_take (i := 2) (oi := ?o2s) (v := ?v2s) ?h2s (by kernel_rfl) ?f2s ?r2s (fun _ _ _ h => h) (Or.inl ⟨?w2s, ?y2s⟩) (by assumption) ?t2s
  case h2s => simp only [List.getElem?_toArray]; rfl
  case f2s => kernel_rfl
  case r2s => kernel_rfl
  case w2s => rfl
  case y2s => (intro u hu; (go_simp) <;> with_reducible rfl)
  try simp only [Act.put, List.setIfInBounds_toArray, List.set_cons_zero, List.set_cons_succ]
  refine wpAnyH_take (i := 4) (oi := ?o4s) (v := ?v4s) ?h4s (by kernel_rfl) ?f4s ?r4s (fun _ _ _ h => h) (Or.inl ⟨?w4s, ?y4s⟩) (by assumption) ?t4s
  case h4s => simp only [List.getElem?_toArray]; rfl
  case f4s => kernel_rfl
  case r4s => kernel_rfl
  case w4s => rfl
  case y4s => (intro u hu; (go_simp) <;> with_reducible rfl)
  try simp only [Act.put, List.setIfInBounds_toArray, List.set_cons_zero, List.set_cons_succ]
  refine wpAnyH_take (i := 5) (oi := ?o5s) (v := ?v5s) ?h5s (by kernel_rfl) ?f5s ?r5s (fun _ _ _ h => h) (Or.inl ⟨?w5s, ?y5s⟩) (by assumption) ?t5s
  case h5s => simp only [List.getElem?_toArray]; rfl
  case f5s => kernel_rfl
  case r5s => kernel_rfl
  case w5s => rfl
  case y5s => (intro u hu; (go_simp) <;> with_reducible rfl)
  try simp only [Act.put, List.setIfInBounds_toArray, List.set_cons_zero, List.set_cons_succ]
  refine wpAnyH_ready (rs := [3]) (by kernel_rfl) (by simp) ?_
  refine AllReadyH.cons (o := ?o3s) ?h3s (fun K hK => ?_) AllReadyH.nil
  case h3s => simp only [List.getElem?_toArray]; rfl
  go_simp
  refine (nonce_c z z0 z1 _).mono ?_
  rintro e V3 ⟨N, rfl, HN, HNn, hb⟩
  refine hK.out _ _ (hH.trans hb) (fun hH' => ?_)
  clear hK K hH
  have hH := hH'
  clear hH'
  try simp only [List.setIfInBounds_toArray, List.set]
  clear hb
  refine wpAnyH_ready (rs := [6]) (by kernel_rfl) (by simp) ?_
  refine AllReadyH.cons (o := ?o6s) ?h6s (fun K hK => ?_) AllReadyH.nil
  case h6s => simp only [List.getElem?_toArray]; rfl
  go_simp
  refine (seal_c key N (some ⟨g2, 0, none⟩) A A ad (some ⟨g1, 0, none⟩) B B text HK.out HNn.out _ ((OA.out.later hH).rd) ((OT.out.later hH).rd) (by omega) (by omega)).mono ?_
  rintro e V4 ⟨gB, mB, XB, rfl, HmB, HXB, OB, -, hb⟩
  refine hK.out _ _ (hH.trans hb) (fun hH' => ?_)
  clear hK K hH
  have hH := hH'
  clear hH'
  try simp only [List.setIfInBounds_toArray, List.set]
  refine wpAnyH_take (i := 7) (oi := ?o7s) (v := ?v7s) ?h7s (by kernel_rfl) ?f7s ?r7s (fun _ _ _ h => h) (Or.inl ⟨?w7s, ?y7s⟩) (by assumption) ?t7s
  case h7s => simp only [List.getElem?_toArray]; rfl
  case f7s => kernel_rfl
  case r7s => kernel_rfl
  case w7s => rfl
  case y7s => (intro u hu; (go_simp) <;> with_reducible rfl)
  try simp only [Act.put, List.setIfInBounds_toArray, List.set_cons_zero, List.set_cons_succ]
  refine wpAnyH_done (by kernel_rfl) ?_ _
  refine NoPanic.normal ?_
  replace hb : Below V2.heap.size V2 V4 := hH
  clear hH
  replace AK : Hid (Ar V4 w.heap.size 32 (List.map (Value.int .u8) key)) := AK.out.later hb
  replace OT : Hid (Ow V4 g1 B text) := OT.out.later hb
  replace OA : Hid (Ow V4 g2 A ad) := OA.out.later hb
  replace HB : Hid (Below w.heap.size w V4) := HB.out.trans (hb.mono HB.out.size)
  clear hb
  have hmb : mB ≤ 3000 := by rw [HmB.out]; omega
  go_upto_region 4 with fail
  refine wp_region_noPanic ?_
  refine wp_region_held_drew (S := Ext V4) (by kernel_rfl) (Ext.refl _).drew (fun hH => ?_)
  change wpAnyH _ _ _ _ _ _ #[false, false, false, false, false, false, false, false, false, false, false, false] _ _
  refine wpAnyH_take (i := 0) (oi := ?o0o) (v := .agg (List.map (Value.int .u8) key).toArray) ?h0o (by kernel_rfl) ?f0o ?r0o (fun _ _ _ h => h) ?y0o (by assumption) ?t0o
  case h0o => simp only [List.getElem?_toArray]; rfl
  case f0o => kernel_rfl
  case r0o => kernel_rfl
  case y0o => exact yieldsIf_load_mid (by rfl) 22 (.tmp 4) rfl w.heap.size 0 rfl (List.map (Value.int .u8) key) _ (fun u hu => range_later hu AK.out.rng) Try.underlying22 rfl hiK
  try simp only [Act.put, List.setIfInBounds_toArray, List.set_cons_zero, List.set_cons_succ]
  refine wpAnyH_take (i := 1) (oi := ?o1o) (v := ?v1o) ?h1o (by kernel_rfl) ?f1o ?r1o (fun _ _ _ h => h) (Or.inl ⟨?w1o, ?y1o⟩) (by assumption) ?t1o
  case h1o => simp only [List.getElem?_toArray]; rfl
  case f1o => kernel_rfl
  case r1o => kernel_rfl
  case w1o => rfl
  case y1o => (intro u hu; (go_simp) <;> with_reducible rfl)
  try simp only [Act.put, List.setIfInBounds_toArray, List.set_cons_zero, List.set_cons_succ]
  refine wpAnyH_take (i := 2) (oi := ?o2o) (v := ?v2o) ?h2o (by kernel_rfl) ?f2o ?r2o (fun _ _ _ h => h) (Or.inl ⟨?w2o, ?y2o⟩) (by assumption) ?t2o
  case h2o => simp only [List.getElem?_toArray]; rfl
  case f2o => kernel_rfl
  case r2o => kernel_rfl
  case w2o => rfl
  case y2o => (intro u hu; (go_simp) <;> with_reducible rfl)
  try simp only [Act.put, List.setIfInBounds_toArray, List.set_cons_zero, List.set_cons_succ]
  refine wpAnyH_take (i := 4) (oi := ?o4o) (v := ?v4o) ?h4o (by kernel_rfl) ?f4o ?r4o (fun _ _ _ h => h) (Or.inl ⟨?w4o, ?y4o⟩) (by assumption) ?t4o
  case h4o => simp only [List.getElem?_toArray]; rfl
  case f4o => kernel_rfl
  case r4o => kernel_rfl
  case w4o => rfl
  case y4o => (intro u hu; (go_simp) <;> with_reducible rfl)
  try simp only [Act.put, List.setIfInBounds_toArray, List.set_cons_zero, List.set_cons_succ]
  refine wpAnyH_take (i := 5) (oi := ?o5o) (v := ?v5o) ?h5o (by kernel_rfl) ?f5o ?r5o (fun _ _ _ h => h) (Or.inl ⟨?w5o, ?y5o⟩) (by assumption) ?t5o
  case h5o => simp only [List.getElem?_toArray]; rfl
  case f5o => kernel_rfl
  case r5o => kernel_rfl
  case w5o => rfl
  case y5o => (intro u hu; (go_simp) <;> with_reducible rfl)
  try simp only [Act.put, List.setIfInBounds_toArray, List.set_cons_zero, List.set_cons_succ]
  refine wpAnyH_ready (rs := [3]) (by kernel_rfl) (by simp) ?_
  refine AllReadyH.cons (o := ?o3o) ?h3o (fun K hK => ?_) AllReadyH.nil
  case h3o => simp only [List.getElem?_toArray]; rfl
  go_simp
  refine (nonce_c z z0 z1 _).mono ?_
  rintro e V5 ⟨N2, rfl, HN2, HNn2, hb⟩
  refine hK.out _ _ (hH.trans hb) (fun hH' => ?_)
  clear hK K hH
  have hH := hH'
  clear hH'
  try simp only [List.setIfInBounds_toArray, List.set]
  clear hb
  refine wpAnyH_ready (rs := [6]) (by kernel_rfl) (by simp) ?_
  refine AllReadyH.cons (o := ?o6o) ?h6o (fun K hK => ?_) AllReadyH.nil
  case h6o => simp only [List.getElem?_toArray]; rfl
  go_simp
  refine (open_c key N2 (some ⟨g2, 0, none⟩) A A ad (some ⟨gB, 0, none⟩) mB mB XB HK.out HNn2.out _ ((OA.out.later hH).rd) ((OB.out.later hH).rd) (by omega) (by omega)).mono ?_
  rintro e V6 ⟨aT, mT, cT, XT, ET, rfl, HET, HXT, RT, hb⟩
  refine hK.out _ _ (hH.trans hb) (fun hH' => ?_)
  clear hK K hH
  have hH := hH'
  clear hH'
  try simp only [List.setIfInBounds_toArray, List.set]
  refine wpAnyH_take (i := 7) (oi := ?o7o) (v := ?v7o) ?h7o (by kernel_rfl) ?f7o ?r7o (fun _ _ _ h => h) (Or.inl ⟨?w7o, ?y7o⟩) (by assumption) ?t7o
  case h7o => simp only [List.getElem?_toArray]; rfl
  case f7o => kernel_rfl
  case r7o => kernel_rfl
  case w7o => rfl
  case y7o => (intro u hu; (go_simp) <;> with_reducible rfl)
  try simp only [Act.put, List.setIfInBounds_toArray, List.set_cons_zero, List.set_cons_succ]
  refine wpAnyH_take (i := 8) (oi := ?o8o) (v := ?v8o) ?h8o (by kernel_rfl) ?f8o ?r8o (fun _ _ _ h => h) (Or.inl ⟨?w8o, ?y8o⟩) (by assumption) ?t8o
  case h8o => simp only [List.getElem?_toArray]; rfl
  case f8o => kernel_rfl
  case r8o => kernel_rfl
  case w8o => rfl
  case y8o => (intro u hu; (go_simp) <;> with_reducible rfl)
  try simp only [Act.put, List.setIfInBounds_toArray, List.set_cons_zero, List.set_cons_succ]
  refine wpAnyH_take (i := 9) (oi := ?o9o) (v := ?v9o) ?h9o (by kernel_rfl) ?f9o ?r9o (fun _ _ _ h => h) (Or.inl ⟨?w9o, ?y9o⟩) (by assumption) ?t9o
  case h9o => simp only [List.getElem?_toArray]; rfl
  case f9o => kernel_rfl
  case r9o => kernel_rfl
  case w9o => rfl
  case y9o => (intro u hu; (go_simp) <;> with_reducible rfl)
  try simp only [Act.put, List.setIfInBounds_toArray, List.set_cons_zero, List.set_cons_succ]
  refine wpAnyH_take (i := 10) (oi := ?o10o) (v := ?v10o) ?h10o (by kernel_rfl) ?f10o ?r10o (fun _ _ _ h => h) (Or.inl ⟨?w10o, ?y10o⟩) (by assumption) ?t10o
  case h10o => simp only [List.getElem?_toArray]; rfl
  case f10o => kernel_rfl
  case r10o => kernel_rfl
  case w10o => rfl
  case y10o => (intro u hu; (go_simp) <;> with_reducible rfl)
  try simp only [Act.put, List.setIfInBounds_toArray, List.set_cons_zero, List.set_cons_succ]
  refine wpAnyH_take (i := 11) (oi := ?o11o) (v := ?v11o) ?h11o (by kernel_rfl) ?f11o ?r11o (fun _ _ _ h => h) (Or.inl ⟨?w11o, ?y11o⟩) (by assumption) ?t11o
  case h11o => simp only [List.getElem?_toArray]; rfl
  case f11o => kernel_rfl
  case r11o => kernel_rfl
  case w11o => rfl
  case y11o => (intro u hu; (go_simp) <;> with_reducible rfl)
  try simp only [Act.put, List.setIfInBounds_toArray, List.set_cons_zero, List.set_cons_succ]
  refine wpAnyH_done (by kernel_rfl) ?_ _
  refine NoPanic.normal ?_
  replace hb : Below V4.heap.size V4 V6 := hH
  have hET : ET = 0 := by rw [HET.out, HXB.out, HN2.out, HN.out, er6_back]
  have hXT : XT = text := by rw [HXT.out, HXB.out, HN2.out, HN.out, op6_back _ _ _ OT.out.byt]
  subst hET hXT
  clear hH HET HXT HXB HN HN2 HNn HNn2
  replace OT : Hid (Ow V6 g1 B XT) := OT.out.later hb
  replace HB : Hid (Below w.heap.size w V6) := HB.out.trans (hb.mono HB.out.size)
  clear hb
  clear AK OA OB hiK hz
  go_wp2_with fail
  refine (known6_any _).mono ?_
  rintro e V7 ⟨rfl, hb⟩
  replace RT : Hid (Rd V7 aT mT cT XT) := RT.out.below hb
  replace OT : Hid (Ow V7 g1 B XT) := OT.out.later hb
  replace HB : Hid (Below w.heap.size w V7) := HB.out.trans (hb.mono HB.out.size)
  clear hb
  have sx1 := str_of RT.out
  have sx2 := str_of OT.out.rd
  clear RT OT
  go_wp2
  go_ret
  exact ⟨rfl, HB.out⟩
end Go.Proofs.Ytppmodncljigcaa
