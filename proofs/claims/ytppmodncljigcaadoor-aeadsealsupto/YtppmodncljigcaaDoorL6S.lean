/-
  AeadSeals' walk. No statement of the seat is proved here.
-/
import Derived.Test.YtppmodncljigcaaDoorR6O
namespace Go.Proofs.YtppmodncljigcaaDoor
open Go.RowKit

set_option maxRecDepth 8000 in
set_option maxHeartbeats 8000000 in
theorem aeadSeals_walk (key nonce : List Int) (aa : Option Addr) (la ca : Nat) (ad : List Int) (at' : Option Addr) (lt ct : Nat) (text : List Int) (mm : Int) (hk : Bn 32 key) (hn : Bn 12 nonce) (hs : la + lt ≤ 1048576) (hm0 : 0 ≤ mm) (hm1 : mm < 18446744073709551616) (w : World) (hra : Rd w aa la ca ad) (hrt : Rd w at' lt ct text) (hg : Gr w) :
    Calls Tryd.prog 3 #[(.agg (List.map (Value.int .u8) key).toArray), (.agg (List.map (Value.int .u8) nonce).toArray), .slice aa la ca, .slice at' lt ct, .int .u64 mm] w fun e w' => e = .returned (.bool true) ∧ Below w.heap.size w w' := by
  have HRA : Hid (Rd w aa la ca ad) := hra
  have HRT : Hid (Rd w at' lt ct text) := hrt
  have HG : Hid (Gr w) := hg
  clear hra hrt hg
  have HK : Hid (Bn 32 key) := hk
  have HN : Hid (Bn 12 nonce) := hn
  clear hk hn
  obtain ⟨_, _, hiK⟩ := bn32_cells HK.out
  obtain ⟨_, _, hiN⟩ := bn12_cells HN.out
  go_enter Tryd.func3, Tryd.ntmps3
  go_upto_region 1 with fail
  have AK : Hid (Ar ((w.alloc (.cells (List.map (Value.int .u8) key).toArray 22)).alloc (.cells (List.map (Value.int .u8) nonce).toArray 23)) w.heap.size 32 (List.map (Value.int .u8) key)) := (ar_box w _ 32 HK.out.map_len _).later (bel1 _ _)
  have AN : Hid (Ar ((w.alloc (.cells (List.map (Value.int .u8) key).toArray 22)).alloc (.cells (List.map (Value.int .u8) nonce).toArray 23)) (w.heap.size + 1) 12 (List.map (Value.int .u8) nonce)) := by have := (ar_box (w.alloc (.cells (List.map (Value.int .u8) key).toArray 22)) _ 12 HN.out.map_len 23); simpa [Hid] using this
  have HB : Hid (Below w.heap.size w ((w.alloc (.cells (List.map (Value.int .u8) key).toArray 22)).alloc (.cells (List.map (Value.int .u8) nonce).toArray 23))) := bel2 _ _ _
  generalize ((w.alloc (.cells (List.map (Value.int .u8) key).toArray 22)).alloc (.cells (List.map (Value.int .u8) nonce).toArray 23)) = W0 at *
  have k1 : w.heap.size < w.heap.size + 1 := by omega
  generalize hq1 : w.heap.size + 1 = q1 at *
  replace HRA : Hid (Rd W0 aa la ca ad) := HRA.out.below HB.out
  replace HRT : Hid (Rd W0 at' lt ct text) := HRT.out.below HB.out
  replace HG : Hid (Gr W0) := HG.out.later HB.out
  go_wp2_with fail
  refine (few_o aa la ca ad _ HRA.out (by omega)).mono ?_
  rintro e W1 ⟨a1, c1, rfl, -, RA, hb⟩
  replace AK : Hid (Ar W1 w.heap.size 32 (List.map (Value.int .u8) key)) := AK.out.later hb
  replace AN : Hid (Ar W1 q1 12 (List.map (Value.int .u8) nonce)) := AN.out.later hb
  replace HRA : Hid (Rd W1 aa la ca ad) := HRA.out.below hb
  replace HRT : Hid (Rd W1 at' lt ct text) := HRT.out.below hb
  replace HG : Hid (Gr W1) := HG.out.later hb
  replace HB : Hid (Below w.heap.size w W1) := HB.out.trans (hb.mono HB.out.size)
  clear hb
  go_wp2_with fail
  refine (few_o at' lt ct text _ HRT.out (by omega)).mono ?_
  rintro e W2 ⟨a2, c2, rfl, -, RT, hb⟩
  replace AK : Hid (Ar W2 w.heap.size 32 (List.map (Value.int .u8) key)) := AK.out.later hb
  replace AN : Hid (Ar W2 q1 12 (List.map (Value.int .u8) nonce)) := AN.out.later hb
  replace HRA : Hid (Rd W2 aa la ca ad) := HRA.out.below hb
  replace HRT : Hid (Rd W2 at' lt ct text) := HRT.out.below hb
  replace HG : Hid (Gr W2) := HG.out.later hb
  replace RA : Hid (Rd W2 a1 la c1 ad) := RA.out.below hb
  replace HB : Hid (Below w.heap.size w W2) := HB.out.trans (hb.mono HB.out.size)
  clear hb
  go_upto_region 3 with fail
  refine wp_region_noPanic ?_
  refine wp_region_held_drew (S := Ext W2) (by kernel_rfl) (Ext.refl _).drew (fun hH => ?_)
  change wpAnyH _ _ _ _ _ _ #[false, false, false, false, false, false, false, false, false, false, false, false, false, false, false, false, false, false, false, false, false, false, false, false, false, false, false, false, false, false, false, false, false, false, false, false, false, false] _ _
  refine wpAnyH_ready (rs := [0]) (by kernel_rfl) (by simp) ?_
  refine AllReadyH.cons (o := ?o0a) ?h0a (fun K hK => ?_) AllReadyH.nil
  case h0a => simp only [List.getElem?_toArray]; rfl
  go_simp
  refine (known6_any _).mono ?_
  rintro e V1 ⟨rfl, hb⟩
  refine hK.out _ _ (hH.trans hb) (fun hH' => ?_)
  clear hK K hH
  have hH := hH'
  clear hH'
  try simp only [List.setIfInBounds_toArray, List.set]
  clear hb
  refine wpAnyH_take (i := 1) (oi := ?o1a) (v := ?v1a) ?h1a (by kernel_rfl) ?f1a ?r1a (fun _ _ _ h => h) (Or.inl ⟨?w1a, ?y1a⟩) (by assumption) ?t1a
  case h1a => simp only [List.getElem?_toArray]; rfl
  case f1a => kernel_rfl
  case r1a => kernel_rfl
  case w1a => rfl
  case y1a => (intro u hu; (go_simp) <;> with_reducible rfl)
  try simp only [Act.put, List.setIfInBounds_toArray, List.set_cons_zero, List.set_cons_succ]
  refine wpAnyH_take (i := 2) (oi := ?o2a) (v := .agg (List.map (Value.int .u8) key).toArray) ?h2a (by kernel_rfl) ?f2a ?r2a (fun _ _ _ h => h) ?y2a (by assumption) ?t2a
  case h2a => simp only [List.getElem?_toArray]; rfl
  case f2a => kernel_rfl
  case r2a => kernel_rfl
  case y2a => exact yieldsIf_load_mid (by rfl) 22 (.tmp 5) rfl w.heap.size 0 rfl (List.map (Value.int .u8) key) _ (fun u hu => range_later hu AK.out.rng) Tryd.underlying22 rfl hiK
  try simp only [Act.put, List.setIfInBounds_toArray, List.set_cons_zero, List.set_cons_succ]
  refine wpAnyH_take (i := 3) (oi := ?o3a) (v := .agg (List.map (Value.int .u8) nonce).toArray) ?h3a (by kernel_rfl) ?f3a ?r3a (fun _ _ _ h => h) ?y3a (by assumption) ?t3a
  case h3a => simp only [List.getElem?_toArray]; rfl
  case f3a => kernel_rfl
  case r3a => kernel_rfl
  case y3a => exact yieldsIf_load_mid (by rfl) 23 (.tmp 6) rfl q1 0 rfl (List.map (Value.int .u8) nonce) _ (fun u hu => range_later hu AN.out.rng) Tryd.underlying23 rfl hiN
  try simp only [Act.put, List.setIfInBounds_toArray, List.set_cons_zero, List.set_cons_succ]
  refine wpAnyH_take (i := 4) (oi := ?o4a) (v := ?v4a) ?h4a (by kernel_rfl) ?f4a ?r4a (fun _ _ _ h => h) (Or.inl ⟨?w4a, ?y4a⟩) (by assumption) ?t4a
  case h4a => simp only [List.getElem?_toArray]; rfl
  case f4a => kernel_rfl
  case r4a => kernel_rfl
  case w4a => rfl
  case y4a => (intro u hu; (go_simp) <;> with_reducible rfl)
  try simp only [Act.put, List.setIfInBounds_toArray, List.set_cons_zero, List.set_cons_succ]
  refine wpAnyH_take (i := 5) (oi := ?o5a) (v := ?v5a) ?h5a (by kernel_rfl) ?f5a ?r5a (fun _ _ _ h => h) (Or.inl ⟨?w5a, ?y5a⟩) (by assumption) ?t5a
  case h5a => simp only [List.getElem?_toArray]; rfl
  case f5a => kernel_rfl
  case r5a => kernel_rfl
  case w5a => rfl
  case y5a => (intro u hu; (go_simp) <;> with_reducible rfl)
  try simp only [Act.put, List.setIfInBounds_toArray, List.set_cons_zero, List.set_cons_succ]
  refine wpAnyH_take (i := 8) (oi := ?o8a) (v := .agg (List.map (Value.int .u8) key).toArray) ?h8a (by kernel_rfl) ?f8a ?r8a (fun _ _ _ h => h) ?y8a (by assumption) ?t8a
  case h8a => simp only [List.getElem?_toArray]; rfl
  case f8a => kernel_rfl
  case r8a => kernel_rfl
  case y8a => exact yieldsIf_load_mid (by rfl) 22 (.tmp 5) rfl w.heap.size 0 rfl (List.map (Value.int .u8) key) _ (fun u hu => range_later hu AK.out.rng) Tryd.underlying22 rfl hiK
  try simp only [Act.put, List.setIfInBounds_toArray, List.set_cons_zero, List.set_cons_succ]
  refine wpAnyH_take (i := 9) (oi := ?o9a) (v := .agg (List.map (Value.int .u8) nonce).toArray) ?h9a (by kernel_rfl) ?f9a ?r9a (fun _ _ _ h => h) ?y9a (by assumption) ?t9a
  case h9a => simp only [List.getElem?_toArray]; rfl
  case f9a => kernel_rfl
  case r9a => kernel_rfl
  case y9a => exact yieldsIf_load_mid (by rfl) 23 (.tmp 6) rfl q1 0 rfl (List.map (Value.int .u8) nonce) _ (fun u hu => range_later hu AN.out.rng) Tryd.underlying23 rfl hiN
  try simp only [Act.put, List.setIfInBounds_toArray, List.set_cons_zero, List.set_cons_succ]
  refine wpAnyH_take (i := 10) (oi := ?o10a) (v := ?v10a) ?h10a (by kernel_rfl) ?f10a ?r10a (fun _ _ _ h => h) (Or.inl ⟨?w10a, ?y10a⟩) (by assumption) ?t10a
  case h10a => simp only [List.getElem?_toArray]; rfl
  case f10a => kernel_rfl
  case r10a => kernel_rfl
  case w10a => rfl
  case y10a => (intro u hu; (go_simp) <;> with_reducible rfl)
  try simp only [Act.put, List.setIfInBounds_toArray, List.set_cons_zero, List.set_cons_succ]
  refine wpAnyH_take (i := 11) (oi := ?o11a) (v := ?v11a) ?h11a (by kernel_rfl) ?f11a ?r11a (fun _ _ _ h => h) (Or.inl ⟨?w11a, ?y11a⟩) (by assumption) ?t11a
  case h11a => simp only [List.getElem?_toArray]; rfl
  case f11a => kernel_rfl
  case r11a => kernel_rfl
  case w11a => rfl
  case y11a => (intro u hu; (go_simp) <;> with_reducible rfl)
  try simp only [Act.put, List.setIfInBounds_toArray, List.set_cons_zero, List.set_cons_succ]
  refine wpAnyH_ready (rs := [6]) (by kernel_rfl) (by simp) ?_
  refine AllReadyH.cons (o := ?o6a) ?h6a (fun K hK => ?_) AllReadyH.nil
  case h6a => simp only [List.getElem?_toArray]; rfl
  go_simp
  refine (seal_c key nonce a1 la c1 ad a2 lt c2 text HK.out HN.out _ (RA.out.below hH) (RT.out.below hH) (by omega) (by omega)).mono ?_
  rintro e V2 ⟨gB, mB, XB, rfl, HmB, HXB, OB, -, hb⟩
  refine hK.out _ _ (hH.trans hb) (fun hH' => ?_)
  clear hK K hH
  have hH := hH'
  clear hH'
  try simp only [List.setIfInBounds_toArray, List.set]
  have hb2 : Below W2.heap.size W2 V2 := hH
  replace AK : Hid (Ar V2 w.heap.size 32 (List.map (Value.int .u8) key)) := AK.out.later hb2
  replace AN : Hid (Ar V2 q1 12 (List.map (Value.int .u8) nonce)) := AN.out.later hb2
  replace HRA : Hid (Rd V2 aa la ca ad) := HRA.out.below hb2
  replace HRT : Hid (Rd V2 at' lt ct text) := HRT.out.below hb2
  replace RA : Hid (Rd V2 a1 la c1 ad) := RA.out.below hb2
  replace RT : Hid (Rd V2 a2 lt c2 text) := RT.out.below hb2
  replace HG : Hid (Gr V2) := HG.out.later hb2
  replace HB : Hid (Below w.heap.size w V2) := HB.out.trans (hb2.mono HB.out.size)
  refine wpAnyH_mono (S' := Ext V2) (fun u hu => Ext.up hb2 hu) ?_
  clear hH hb hb2
  have hH : Ext V2 V2 := Ext.refl _
  have OR : Hid (Rd V2 (some ⟨gB, 0, none⟩) mB mB XB) := OB.out.rd
  have s1 : ∀ u, Ext V2 u → (convert 24 9 (.slice (some ⟨gB, 0, none⟩) mB mB)).run Tryd.prog u = .ok (.string (strOfNums XB)) u := fun u hu => str_of (OR.out.below hu)
  refine wpAnyH_take (i := 7) (oi := ?o7a) (v := ?v7a) ?h7a (by kernel_rfl) ?f7a ?r7a (fun _ _ _ h => h) (Or.inl ⟨?w7a, ?y7a⟩) (by assumption) ?t7a
  case h7a => simp only [List.getElem?_toArray]; rfl
  case f7a => kernel_rfl
  case r7a => kernel_rfl
  case w7a => rfl
  case y7a => (intro u hu; (go_simp) <;> with_reducible rfl)
  try simp only [Act.put, List.setIfInBounds_toArray, List.set_cons_zero, List.set_cons_succ]
  clear s1 OR OB
  refine wpAnyH_ready (rs := [12]) (by kernel_rfl) (by simp) ?_
  refine AllReadyH.cons (o := ?o12a) ?h12a (fun K hK => ?_) AllReadyH.nil
  case h12a => simp only [List.getElem?_toArray]; rfl
  go_simp
  refine (rseal_c key nonce aa la ca ad at' lt ct text HK.out HN.out _ (HRA.out.below hH) (HRT.out.below hH) (HG.out.later hH) (by omega)).mono ?_
  rintro e V3 ⟨aR, mR, cR, XR, rfl, HmR, HXR, OR, hb⟩
  refine hK.out _ _ (hH.trans hb) (fun hH' => ?_)
  clear hK K hH
  have hH := hH'
  clear hH'
  try simp only [List.setIfInBounds_toArray, List.set]
  have hb2 : Below V2.heap.size V2 V3 := hH
  replace AK : Hid (Ar V3 w.heap.size 32 (List.map (Value.int .u8) key)) := AK.out.later hb2
  replace AN : Hid (Ar V3 q1 12 (List.map (Value.int .u8) nonce)) := AN.out.later hb2
  replace HRA : Hid (Rd V3 aa la ca ad) := HRA.out.below hb2
  replace HRT : Hid (Rd V3 at' lt ct text) := HRT.out.below hb2
  replace RA : Hid (Rd V3 a1 la c1 ad) := RA.out.below hb2
  replace RT : Hid (Rd V3 a2 lt c2 text) := RT.out.below hb2
  replace HG : Hid (Gr V3) := HG.out.later hb2
  replace HB : Hid (Below w.heap.size w V3) := HB.out.trans (hb2.mono HB.out.size)
  refine wpAnyH_mono (S' := Ext V3) (fun u hu => Ext.up hb2 hu) ?_
  clear hH hb hb2
  have hH : Ext V3 V3 := Ext.refl _
  have hX : XR = XB := by rw [HXR.out, HXB.out]
  subst hX
  have OR2 : Hid (Rd V3 aR mR cR XR) := rd_own (by rw [HXR.out]; exact se6_byt _ _ _ HRT.out.byt) OR.out
  have s1 : ∀ u, Ext V3 u → (convert 24 9 (.slice aR mR cR)).run Tryd.prog u = .ok (.string (strOfNums XR)) u := fun u hu => str_of (OR2.out.below hu)
  refine wpAnyH_take (i := 13) (oi := ?o13a) (v := ?v13a) ?h13a (by kernel_rfl) ?f13a ?r13a (fun _ _ _ h => h) (Or.inl ⟨?w13a, ?y13a⟩) (by assumption) ?t13a
  case h13a => simp only [List.getElem?_toArray]; rfl
  case f13a => kernel_rfl
  case r13a => kernel_rfl
  case w13a => rfl
  case y13a => (intro u hu; (go_simp) <;> with_reducible rfl)
  try simp only [Act.put, List.setIfInBounds_toArray, List.set_cons_zero, List.set_cons_succ]
  clear s1 OR OR2 HXR HXB HmR HmB
  refine wpAnyH_take (i := 14) (oi := ?o14a) (v := ?v14a) ?h14a (by kernel_rfl) ?f14a ?r14a (fun _ _ _ h => h) (Or.inl ⟨?w14a, ?y14a⟩) (by assumption) ?t14a
  case h14a => simp only [List.getElem?_toArray]; rfl
  case f14a => kernel_rfl
  case r14a => kernel_rfl
  case w14a => rfl
  case y14a => (intro u hu; (go_simp) <;> with_reducible rfl)
  try simp only [Act.put, List.setIfInBounds_toArray, List.set_cons_zero, List.set_cons_succ]
  refine wpAnyH_take (i := 15) (oi := ?o15a) (v := ?v15a) ?h15a (by kernel_rfl) ?f15a ?r15a (fun _ _ _ h => h) (Or.inl ⟨?w15a, ?y15a⟩) (by assumption) ?t15a
  case h15a => simp only [List.getElem?_toArray]; rfl
  case f15a => kernel_rfl
  case r15a => kernel_rfl
  case w15a => rfl
  case y15a => (intro u hu; (go_simp) <;> with_reducible rfl)
  try simp only [Act.put, List.setIfInBounds_toArray, List.set_cons_zero, List.set_cons_succ]
  refine wpAnyH_take (i := 16) (oi := ?o16a) (v := ?v16a) ?h16a (by kernel_rfl) ?f16a ?r16a (fun _ _ _ h => h) (Or.inl ⟨?w16a, ?y16a⟩) (by assumption) ?t16a
  case h16a => simp only [List.getElem?_toArray]; rfl
  case f16a => kernel_rfl
  case r16a => kernel_rfl
  case w16a => rfl
  case y16a => (intro u hu; (go_simp) <;> with_reducible rfl)
  try simp only [Act.put, List.setIfInBounds_toArray, List.set_cons_zero, List.set_cons_succ]
  have s1 : ∀ u, Ext V3 u → (convert 24 9 (.slice a1 la c1)).run Tryd.prog u = .ok (.string (strOfNums ad)) u := fun u hu => str_of (RA.out.below hu)
  have s2 : ∀ u, Ext V3 u → (convert 24 9 (.slice aa la ca)).run Tryd.prog u = .ok (.string (strOfNums ad)) u := fun u hu => str_of (HRA.out.below hu)
  refine wpAnyH_take (i := 17) (oi := ?o17a) (v := ?v17a) ?h17a (by kernel_rfl) ?f17a ?r17a (fun _ _ _ h => h) (Or.inl ⟨?w17a, ?y17a⟩) (by assumption) ?t17a
  case h17a => simp only [List.getElem?_toArray]; rfl
  case f17a => kernel_rfl
  case r17a => kernel_rfl
  case w17a => rfl
  case y17a => (intro u hu; (go_simp) <;> with_reducible rfl)
  try simp only [Act.put, List.setIfInBounds_toArray, List.set_cons_zero, List.set_cons_succ]
  refine wpAnyH_take (i := 18) (oi := ?o18a) (v := ?v18a) ?h18a (by kernel_rfl) ?f18a ?r18a (fun _ _ _ h => h) (Or.inl ⟨?w18a, ?y18a⟩) (by assumption) ?t18a
  case h18a => simp only [List.getElem?_toArray]; rfl
  case f18a => kernel_rfl
  case r18a => kernel_rfl
  case w18a => rfl
  case y18a => (intro u hu; (go_simp) <;> with_reducible rfl)
  try simp only [Act.put, List.setIfInBounds_toArray, List.set_cons_zero, List.set_cons_succ]
  refine wpAnyH_take (i := 19) (oi := ?o19a) (v := ?v19a) ?h19a (by kernel_rfl) ?f19a ?r19a (fun _ _ _ h => h) (Or.inl ⟨?w19a, ?y19a⟩) (by assumption) ?t19a
  case h19a => simp only [List.getElem?_toArray]; rfl
  case f19a => kernel_rfl
  case r19a => kernel_rfl
  case w19a => rfl
  case y19a => (intro u hu; (go_simp) <;> with_reducible rfl)
  try simp only [Act.put, List.setIfInBounds_toArray, List.set_cons_zero, List.set_cons_succ]
  refine wpAnyH_take (i := 20) (oi := ?o20a) (v := ?v20a) ?h20a (by kernel_rfl) ?f20a ?r20a (fun _ _ _ h => h) (Or.inl ⟨?w20a, ?y20a⟩) (by assumption) ?t20a
  case h20a => simp only [List.getElem?_toArray]; rfl
  case f20a => kernel_rfl
  case r20a => kernel_rfl
  case w20a => rfl
  case y20a => (intro u hu; (go_simp) <;> with_reducible rfl)
  try simp only [Act.put, List.setIfInBounds_toArray, List.set_cons_zero, List.set_cons_succ]
  refine wpAnyH_take (i := 21) (oi := ?o21a) (v := ?v21a) ?h21a (by kernel_rfl) ?f21a ?r21a (fun _ _ _ h => h) (Or.inl ⟨?w21a, ?y21a⟩) (by assumption) ?t21a
  case h21a => simp only [List.getElem?_toArray]; rfl
  case f21a => kernel_rfl
  case r21a => kernel_rfl
  case w21a => rfl
  case y21a => (intro u hu; (go_simp) <;> with_reducible rfl)
  try simp only [Act.put, List.setIfInBounds_toArray, List.set_cons_zero, List.set_cons_succ]
  refine wpAnyH_take (i := 22) (oi := ?o22a) (v := ?v22a) ?h22a (by kernel_rfl) ?f22a ?r22a (fun _ _ _ h => h) (Or.inl ⟨?w22a, ?y22a⟩) (by assumption) ?t22a
  case h22a => simp only [List.getElem?_toArray]; rfl
  case f22a => kernel_rfl
  case r22a => kernel_rfl
  case w22a => rfl
  case y22a => (intro u hu; (go_simp) <;> with_reducible rfl)
  try simp only [Act.put, List.setIfInBounds_toArray, List.set_cons_zero, List.set_cons_succ]
  refine wpAnyH_take (i := 23) (oi := ?o23a) (v := ?v23a) ?h23a (by kernel_rfl) ?f23a ?r23a (fun _ _ _ h => h) (Or.inl ⟨?w23a, ?y23a⟩) (by assumption) ?t23a
  case h23a => simp only [List.getElem?_toArray]; rfl
  case f23a => kernel_rfl
  case r23a => kernel_rfl
  case w23a => rfl
  case y23a => (intro u hu; (go_simp) <;> with_reducible rfl)
  try simp only [Act.put, List.setIfInBounds_toArray, List.set_cons_zero, List.set_cons_succ]
  clear s1 s2
  have s1 : ∀ u, Ext V3 u → (convert 24 9 (.slice a2 lt c2)).run Tryd.prog u = .ok (.string (strOfNums text)) u := fun u hu => str_of (RT.out.below hu)
  have s2 : ∀ u, Ext V3 u → (convert 24 9 (.slice at' lt ct)).run Tryd.prog u = .ok (.string (strOfNums text)) u := fun u hu => str_of (HRT.out.below hu)
  refine wpAnyH_take (i := 24) (oi := ?o24a) (v := ?v24a) ?h24a (by kernel_rfl) ?f24a ?r24a (fun _ _ _ h => h) (Or.inl ⟨?w24a, ?y24a⟩) (by assumption) ?t24a
  case h24a => simp only [List.getElem?_toArray]; rfl
  case f24a => kernel_rfl
  case r24a => kernel_rfl
  case w24a => rfl
  case y24a => (intro u hu; (go_simp) <;> with_reducible rfl)
  try simp only [Act.put, List.setIfInBounds_toArray, List.set_cons_zero, List.set_cons_succ]
  refine wpAnyH_take (i := 25) (oi := ?o25a) (v := ?v25a) ?h25a (by kernel_rfl) ?f25a ?r25a (fun _ _ _ h => h) (Or.inl ⟨?w25a, ?y25a⟩) (by assumption) ?t25a
  case h25a => simp only [List.getElem?_toArray]; rfl
  case f25a => kernel_rfl
  case r25a => kernel_rfl
  case w25a => rfl
  case y25a => (intro u hu; (go_simp) <;> with_reducible rfl)
  try simp only [Act.put, List.setIfInBounds_toArray, List.set_cons_zero, List.set_cons_succ]
  refine wpAnyH_take (i := 26) (oi := ?o26a) (v := ?v26a) ?h26a (by kernel_rfl) ?f26a ?r26a (fun _ _ _ h => h) (Or.inl ⟨?w26a, ?y26a⟩) (by assumption) ?t26a
  case h26a => simp only [List.getElem?_toArray]; rfl
  case f26a => kernel_rfl
  case r26a => kernel_rfl
  case w26a => rfl
  case y26a => (intro u hu; (go_simp) <;> with_reducible rfl)
  try simp only [Act.put, List.setIfInBounds_toArray, List.set_cons_zero, List.set_cons_succ]
  refine wpAnyH_take (i := 27) (oi := ?o27a) (v := ?v27a) ?h27a (by kernel_rfl) ?f27a ?r27a (fun _ _ _ h => h) (Or.inl ⟨?w27a, ?y27a⟩) (by assumption) ?t27a
  case h27a => simp only [List.getElem?_toArray]; rfl
  case f27a => kernel_rfl
  case r27a => kernel_rfl
  case w27a => rfl
  case y27a => (intro u hu; (go_simp) <;> with_reducible rfl)
  try simp only [Act.put, List.setIfInBounds_toArray, List.set_cons_zero, List.set_cons_succ]
  refine wpAnyH_take (i := 28) (oi := ?o28a) (v := ?v28a) ?h28a (by kernel_rfl) ?f28a ?r28a (fun _ _ _ h => h) (Or.inl ⟨?w28a, ?y28a⟩) (by assumption) ?t28a
  case h28a => simp only [List.getElem?_toArray]; rfl
  case f28a => kernel_rfl
  case r28a => kernel_rfl
  case w28a => rfl
  case y28a => (intro u hu; (go_simp) <;> with_reducible rfl)
  try simp only [Act.put, List.setIfInBounds_toArray, List.set_cons_zero, List.set_cons_succ]
  refine wpAnyH_take (i := 29) (oi := ?o29a) (v := ?v29a) ?h29a (by kernel_rfl) ?f29a ?r29a (fun _ _ _ h => h) (Or.inl ⟨?w29a, ?y29a⟩) (by assumption) ?t29a
  case h29a => simp only [List.getElem?_toArray]; rfl
  case f29a => kernel_rfl
  case r29a => kernel_rfl
  case w29a => rfl
  case y29a => (intro u hu; (go_simp) <;> with_reducible rfl)
  try simp only [Act.put, List.setIfInBounds_toArray, List.set_cons_zero, List.set_cons_succ]
  refine wpAnyH_take (i := 30) (oi := ?o30a) (v := ?v30a) ?h30a (by kernel_rfl) ?f30a ?r30a (fun _ _ _ h => h) (Or.inl ⟨?w30a, ?y30a⟩) (by assumption) ?t30a
  case h30a => simp only [List.getElem?_toArray]; rfl
  case f30a => kernel_rfl
  case r30a => kernel_rfl
  case w30a => rfl
  case y30a => (intro u hu; (go_simp) <;> with_reducible rfl)
  try simp only [Act.put, List.setIfInBounds_toArray, List.set_cons_zero, List.set_cons_succ]
  refine wpAnyH_take (i := 31) (oi := ?o31a) (v := ?v31a) ?h31a (by kernel_rfl) ?f31a ?r31a (fun _ _ _ h => h) (Or.inl ⟨?w31a, ?y31a⟩) (by assumption) ?t31a
  case h31a => simp only [List.getElem?_toArray]; rfl
  case f31a => kernel_rfl
  case r31a => kernel_rfl
  case w31a => rfl
  case y31a => (intro u hu; (go_simp) <;> with_reducible rfl)
  try simp only [Act.put, List.setIfInBounds_toArray, List.set_cons_zero, List.set_cons_succ]
  clear s1 s2
  refine wpAnyH_take (i := 33) (oi := ?o33a) (v := ?v33a) ?h33a (by kernel_rfl) ?f33a ?r33a (fun _ _ _ h => h) (Or.inl ⟨?w33a, ?y33a⟩) (by assumption) ?t33a
  case h33a => simp only [List.getElem?_toArray]; rfl
  case f33a => kernel_rfl
  case r33a => kernel_rfl
  case w33a => rfl
  case y33a => (intro u hu; (go_simp) <;> with_reducible rfl)
  try simp only [Act.put, List.setIfInBounds_toArray, List.set_cons_zero, List.set_cons_succ]
  refine wpAnyH_ready (rs := [32]) (by kernel_rfl) (by simp) ?_
  refine AllReadyH.cons (o := ?o32a) ?h32a (fun K hK => ?_) AllReadyH.nil
  case h32a => simp only [List.getElem?_toArray]; rfl
  go_simp
  refine (nonce_c mm hm0 hm1 _).mono ?_
  rintro e V4 ⟨N1, rfl, HN1, HNn1, hb⟩
  refine hK.out _ _ (hH.trans hb) (fun hH' => ?_)
  clear hK K hH
  have hH := hH'
  clear hH'
  try simp only [List.setIfInBounds_toArray, List.set]
  clear hb
  refine wpAnyH_ready (rs := [34]) (by kernel_rfl) (by simp) ?_
  refine AllReadyH.cons (o := ?o34a) ?h34a (fun K hK => ?_) AllReadyH.nil
  case h34a => simp only [List.getElem?_toArray]; rfl
  go_simp
  refine (rnonce_c mm hm0 hm1 _).mono ?_
  rintro e V5 ⟨N2, rfl, HN2, -, hb⟩
  refine hK.out _ _ (hH.trans hb) (fun hH' => ?_)
  clear hK K hH
  have hH := hH'
  clear hH'
  try simp only [List.setIfInBounds_toArray, List.set]
  clear hb
  have heq : ∀ u, Sem.run Tryd.prog (binOp .eql 23 (.agg (List.map (Value.int .u8) N1).toArray) (.agg (List.map (Value.int .u8) N2).toArray)) u = .ok (.bool true) u := fun u => eql12 N1 N2 HNn1.out (by rw [HN1.out, HN2.out]) u
  refine wpAnyH_take (i := 35) (oi := ?o35a) (v := ?v35a) ?h35a (by kernel_rfl) ?f35a ?r35a (fun _ _ _ h => h) (Or.inl ⟨?w35a, ?y35a⟩) (by assumption) ?t35a
  case h35a => simp only [List.getElem?_toArray]; rfl
  case f35a => kernel_rfl
  case r35a => kernel_rfl
  case w35a => rfl
  case y35a => (intro u hu; (go_simp) <;> with_reducible rfl)
  try simp only [Act.put, List.setIfInBounds_toArray, List.set_cons_zero, List.set_cons_succ]
  clear heq
  refine wpAnyH_take (i := 36) (oi := ?o36a) (v := ?v36a) ?h36a (by kernel_rfl) ?f36a ?r36a (fun _ _ _ h => h) (Or.inl ⟨?w36a, ?y36a⟩) (by assumption) ?t36a
  case h36a => simp only [List.getElem?_toArray]; rfl
  case f36a => kernel_rfl
  case r36a => kernel_rfl
  case w36a => rfl
  case y36a => (intro u hu; (go_simp) <;> with_reducible rfl)
  try simp only [Act.put, List.setIfInBounds_toArray, List.set_cons_zero, List.set_cons_succ]
  refine wpAnyH_take (i := 37) (oi := ?o37a) (v := ?v37a) ?h37a (by kernel_rfl) ?f37a ?r37a (fun _ _ _ h => h) (Or.inl ⟨?w37a, ?y37a⟩) (by assumption) ?t37a
  case h37a => simp only [List.getElem?_toArray]; rfl
  case f37a => kernel_rfl
  case r37a => kernel_rfl
  case w37a => rfl
  case y37a => (intro u hu; (go_simp) <;> with_reducible rfl)
  try simp only [Act.put, List.setIfInBounds_toArray, List.set_cons_zero, List.set_cons_succ]
  refine wpAnyH_done (by kernel_rfl) ?_ _
  refine NoPanic.normal ?_
  have hEn : Below w.heap.size w V5 := HB.out.trans (Below.mono hH HB.out.size)
  clear hH AK AN HRA HRT HG RA RT
  go_wp2
  go_ret
  exact ⟨rfl, hEn⟩
end Go.Proofs.YtppmodncljigcaaDoor
