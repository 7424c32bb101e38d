/-
  SymmKnown's walk. No statement of the seat is proved here.
-/
import Derived.Test.YtmibjgkakolhiaaDoorPk32
import Derived.Test.YtmibjgkakolhiaaDoorYMix
import Derived.Test.YtmibjgkakolhiaaDoorRYNew
import Derived.Test.YtmibjgkakolhiaaDoorPk42
import Derived.Test.YtmibjgkakolhiaaDoorRYMix
import Derived.Test.YtmibjgkakolhiaaDoorPk26
namespace Go.Proofs.YtmibjgkakolhiaaDoor
open Go.RowKit

set_option maxRecDepth 8000 in
theorem kn10c : (ky8 (hm8 (nm10 (sd { data := #[97, 32, 110, 97, 109, 101, 32, 116, 104, 97, 116, 32, 105, 115, 32, 108, 111, 110, 103, 101, 114, 32, 116, 104, 97, 110, 32, 116, 104, 105, 114, 116, 121, 45, 116, 119, 111, 32, 98, 121, 116, 101, 115, 32, 97, 114, 101] })) [121]) 1) = [179, 178, 17, 65, 101, 218, 203, 136, 26, 213, 215, 136, 115, 28, 106, 255, 121, 85, 0, 185, 210, 143, 200, 26, 176, 96, 64, 67, 241, 222, 37, 155] := by decide +kernel
set_option maxRecDepth 8000 in
theorem kn10a : ky8 (hm8 (ky8 (hm8 (nm10 (sd { data := #[97, 32, 110, 97, 109, 101, 32, 116, 104, 97, 116, 32, 105, 115, 32, 108, 111, 110, 103, 101, 114, 32, 116, 104, 97, 110, 32, 116, 104, 105, 114, 116, 121, 45, 116, 119, 111, 32, 98, 121, 116, 101, 115, 32, 97, 114, 101] })) [121]) 1) []) 1 = [236, 9, 156, 238, 204, 129, 168, 184, 74, 216, 205, 126, 242, 217, 134, 183, 195, 52, 134, 226, 129, 94, 92, 221, 73, 100, 238, 129, 229, 192, 248, 62] := by rw [kn10c]; decide +kernel
set_option maxRecDepth 8000 in
theorem kn10b : ky8 (hm8 (ky8 (hm8 (nm10 (sd { data := #[97, 32, 110, 97, 109, 101, 32, 116, 104, 97, 116, 32, 105, 115, 32, 108, 111, 110, 103, 101, 114, 32, 116, 104, 97, 110, 32, 116, 104, 105, 114, 116, 121, 45, 116, 119, 111, 32, 98, 121, 116, 101, 115, 32, 97, 114, 101] })) [121]) 1) []) 2 = [237, 246, 95, 37, 99, 79, 176, 153, 4, 71, 222, 141, 220, 219, 127, 20, 41, 250, 141, 205, 78, 82, 165, 85, 220, 166, 97, 27, 205, 87, 7, 216] := by rw [kn10c]; decide +kernel
set_option maxRecDepth 8000 in
set_option maxHeartbeats 8000000 in
theorem symmKnown_walk (w : World) (hg : Gb w ∧ Gq w) :
    Calls Tryd.prog 3 #[] w fun e w' => e = .returned (.bool true) ∧ Below w.heap.size w w' := by
  have HG : Hid (Gb w) := hg.1
  have HQ : Hid (Gq w) := hg.2
  have hg0 := hg.1.ivlt
  have hg1 := hg.1.sglt
  clear hg
  go_enter Tryd.func3, Tryd.ntmps3
  go_wp2_with fail
  refine (new10_c _ _ HG.out (by decide)).mono ?_
  rintro e V1 ⟨bs, N, rfl, kbs, HN, Sa, hb⟩
  have HB : Hid (Below w.heap.size w V1) := hb
  clear hb
  have kss := Sa.out.lt
  go_wp2_with fail
  refine (rnew10_c _ _ (HQ.out.later HB.out) (by decide)).mono ?_
  rintro e V2 ⟨br, N2, rfl, kbr, HN2, Sr, hb⟩
  have nsr : bs < br := by omega
  replace kbr : w.heap.size ≤ br := Nat.le_trans HB.out.size kbr
  have hN : N2 = N := by rw [HN2.out, HN.out]
  subst hN
  clear HN2 kss
  replace Sa : Hid (My V2 bs z9l false 0 N2 N2) := Sa.out.later hb
  replace HB : Hid (Below w.heap.size w V2) := HB.out.trans (hb.mono HB.out.size)
  clear hb
  go_upto_region 3 with fail
  refine wp_region_noPanic ?_
  refine wp_region_held_drew (S := Ext V2) (by kernel_rfl) (Ext.refl _).drew (fun hH => ?_)
  change wpAnyH _ _ _ _ _ _ #[false, false, false, false, false, false, false, false, false, false, false, false, false, false, false] _ _
  obtain ⟨_, _, hiN⟩ := bn32_cells Sr.out.bh
  refine wpAnyH_ready (rs := [0]) (by kernel_rfl) (by simp) ?_
  refine AllReadyH.cons (o := ?o0a) ?h0a (fun K hK => ?_) AllReadyH.nil
  case h0a => simp only [List.getElem?_toArray]; rfl
  go_simp
  refine (known10_any _ ((HG.out.later HB.out).later hH)).mono ?_
  rintro e V3 ⟨rfl, hb⟩
  refine hK.out _ _ (hH.trans hb) (fun hH' => ?_)
  clear hK K hH
  have hH := hH'
  clear hH'
  try simp only [List.setIfInBounds_toArray, List.set]
  clear hb
  refine wpAnyH_take (i := 1) (oi := ?o1a) (v := ?v1a) ?h1a (by kernel_rfl) ?f1a ?r1a (fun _ _ _ h => h) (Or.inl ⟨?w1a, ?y1a⟩) (by assumption) ?t1a
  case h1a => simp only [List.getElem?_toArray]; rfl
  case f1a => kernel_rfl
  case r1a => kernel_rfl
  case w1a => rfl
  case y1a => (intro u hu; (go_simp) <;> with_reducible rfl)
  try simp only [Act.put, List.setIfInBounds_toArray, List.set_cons_zero, List.set_cons_succ]
  refine wpAnyH_take (i := 2) (oi := ?o2a) (v := ?v2a) ?h2a (by kernel_rfl) ?f2a ?r2a (fun _ _ _ h => h) (Or.inl ⟨?w2a, ?y2a⟩) (by assumption) ?t2a
  case h2a => simp only [List.getElem?_toArray]; rfl
  case f2a => kernel_rfl
  case r2a => kernel_rfl
  case w2a => rfl
  case y2a => (intro u hu; (go_simp) <;> with_reducible rfl)
  try simp only [Act.put, List.setIfInBounds_toArray, List.set_cons_zero, List.set_cons_succ]
  refine wpAnyH_take (i := 3) (oi := ?o3a) (v := ?v3a) ?h3a (by kernel_rfl) ?f3a ?r3a (fun _ _ _ h => h) (Or.inl ⟨?w3a, ?y3a⟩) (by assumption) ?t3a
  case h3a => simp only [List.getElem?_toArray]; rfl
  case f3a => kernel_rfl
  case r3a => kernel_rfl
  case w3a => rfl
  case y3a => (intro u hu; (go_simp) <;> with_reducible rfl)
  try simp only [Act.put, List.setIfInBounds_toArray, List.set_cons_zero, List.set_cons_succ]
  refine wpAnyH_take (i := 4) (oi := ?o4a) (v := ?v4a) ?h4a (by kernel_rfl) ?f4a ?r4a (fun _ _ _ h => h) (Or.inl ⟨?w4a, ?y4a⟩) (by assumption) ?t4a
  case h4a => simp only [List.getElem?_toArray]; rfl
  case f4a => kernel_rfl
  case r4a => kernel_rfl
  case w4a => rfl
  case y4a => (intro u hu; (go_simp) <;> with_reducible rfl)
  try simp only [Act.put, List.setIfInBounds_toArray, List.set_cons_zero, List.set_cons_succ]
  refine wpAnyH_take (i := 5) (oi := ?o5a) (v := ?v5a) ?h5a (by kernel_rfl) ?f5a ?r5a (fun _ _ _ h => h) (Or.inl ⟨?w5a, ?y5a⟩) (by assumption) ?t5a
  case h5a => simp only [List.getElem?_toArray]; rfl
  case f5a => kernel_rfl
  case r5a => kernel_rfl
  case w5a => rfl
  case y5a => (intro u hu; (go_simp) <;> with_reducible rfl)
  try simp only [Act.put, List.setIfInBounds_toArray, List.set_cons_zero, List.set_cons_succ]
  refine wpAnyH_take (i := 6) (oi := ?o6a) (v := ?v6a) ?h6a (by kernel_rfl) ?f6a ?r6a (fun _ _ _ h => h) (Or.inl ⟨?w6a, ?y6a⟩) (by assumption) ?t6a
  case h6a => simp only [List.getElem?_toArray]; rfl
  case f6a => kernel_rfl
  case r6a => kernel_rfl
  case w6a => rfl
  case y6a => (intro u hu; (go_simp) <;> with_reducible rfl)
  try simp only [Act.put, List.setIfInBounds_toArray, List.set_cons_zero, List.set_cons_succ]
  refine wpAnyH_take (i := 7) (oi := ?o7a) (v := ?v7a) ?h7a (by kernel_rfl) ?f7a ?r7a (fun _ _ _ h => h) (Or.inl ⟨?w7a, ?y7a⟩) (by assumption) ?t7a
  case h7a => simp only [List.getElem?_toArray]; rfl
  case f7a => kernel_rfl
  case r7a => kernel_rfl
  case w7a => rfl
  case y7a => (intro u hu; (go_simp) <;> with_reducible rfl)
  try simp only [Act.put, List.setIfInBounds_toArray, List.set_cons_zero, List.set_cons_succ]
  refine wpAnyH_take (i := 9) (oi := ?o9a) (v := ?v9a) ?h9a (by kernel_rfl) ?f9a ?r9a (fun _ _ _ h => h) (Or.inl ⟨?w9a, ?y9a⟩) (by assumption) ?t9a
  case h9a => simp only [List.getElem?_toArray]; rfl
  case f9a => kernel_rfl
  case r9a => kernel_rfl
  case w9a => rfl
  case y9a => (intro u hu; (go_simp) <;> with_reducible rfl)
  try simp only [Act.put, List.setIfInBounds_toArray, List.set_cons_zero, List.set_cons_succ]
  refine wpAnyH_take (i := 10) (oi := ?o10a) (v := ?v10a) ?h10a (by kernel_rfl) ?f10a ?r10a (fun _ _ _ h => h) (Or.inl ⟨?w10a, ?y10a⟩) (by assumption) ?t10a
  case h10a => simp only [List.getElem?_toArray]; rfl
  case f10a => kernel_rfl
  case r10a => kernel_rfl
  case w10a => rfl
  case y10a => (intro u hu; (go_simp) <;> with_reducible rfl)
  try simp only [Act.put, List.setIfInBounds_toArray, List.set_cons_zero, List.set_cons_succ]
  refine wpAnyH_take (i := 11) (oi := ?o11a) (v := ?v11a) ?h11a (by kernel_rfl) ?f11a ?r11a (fun _ _ _ h => h) (Or.inl ⟨?w11a, ?y11a⟩) (by assumption) ?t11a
  case h11a => simp only [List.getElem?_toArray]; rfl
  case f11a => kernel_rfl
  case r11a => kernel_rfl
  case w11a => rfl
  case y11a => (intro u hu; (go_simp) <;> with_reducible rfl)
  try simp only [Act.put, List.setIfInBounds_toArray, List.set_cons_zero, List.set_cons_succ]
  refine wpAnyH_take (i := 12) (oi := ?o12al) (v := .agg (List.map (Value.int .u8) N2).toArray) ?h12al (by kernel_rfl) ?f12al ?r12al (fun _ _ _ h => h) ?y12al (by assumption) ?t12al
  case h12al => simp only [List.getElem?_toArray]; rfl
  case f12al => kernel_rfl
  case r12al => kernel_rfl
  case y12al => exact yieldsIf_load_mid (by rfl) 27 (.tmp 18) rfl br 34 rfl (List.map (Value.int .u8) N2) _ (fun u hu => range_later hu Sr.out.ho.rng) Tryd.underlying27 rfl hiN
  try simp only [Act.put, List.setIfInBounds_toArray, List.set_cons_zero, List.set_cons_succ]
  refine wpAnyH_ready (rs := [8]) (by kernel_rfl) (by simp) ?_
  refine AllReadyH.cons (o := ?o8a) ?h8a (fun K hK => ?_) AllReadyH.nil
  case h8a => simp only [List.getElem?_toArray]; rfl
  go_simp
  refine (hash10_c bs z9l false 0 N2 N2 _ (Sa.out.later hH)).mono ?_
  rintro e V4 ⟨rfl, hb⟩
  refine hK.out _ _ (hH.trans hb) (fun hH' => ?_)
  clear hK K hH
  have hH := hH'
  clear hH'
  try simp only [List.setIfInBounds_toArray, List.set]
  clear hb
  have hne : ∀ u, Sem.run Tryd.prog (binOp .neq 27 (.agg (List.map (Value.int .u8) N2).toArray) (.agg (List.map (Value.int .u8) N2).toArray)) u = .ok (.bool false) u := fun u => neq32 N2 N2 Sr.out.bh (rfl) u
  refine wpAnyH_take (i := 13) (oi := ?o13a) (v := ?v13a) ?h13a (by kernel_rfl) ?f13a ?r13a (fun _ _ _ h => h) (Or.inl ⟨?w13a, ?y13a⟩) (by assumption) ?t13a
  case h13a => simp only [List.getElem?_toArray]; rfl
  case f13a => kernel_rfl
  case r13a => kernel_rfl
  case w13a => rfl
  case y13a => (intro u hu; (go_simp) <;> with_reducible rfl)
  try simp only [Act.put, List.setIfInBounds_toArray, List.set_cons_zero, List.set_cons_succ]
  refine wpAnyH_take (i := 14) (oi := ?o14a) (v := ?v14a) ?h14a (by kernel_rfl) ?f14a ?r14a (fun _ _ _ h => h) (Or.inl ⟨?w14a, ?y14a⟩) (by assumption) ?t14a
  case h14a => simp only [List.getElem?_toArray]; rfl
  case f14a => kernel_rfl
  case r14a => kernel_rfl
  case w14a => rfl
  case y14a => (intro u hu; (go_simp) <;> with_reducible rfl)
  try simp only [Act.put, List.setIfInBounds_toArray, List.set_cons_zero, List.set_cons_succ]
  refine wpAnyH_done (by kernel_rfl) ?_ _
  refine NoPanic.normal ?_
  have hb : Below V2.heap.size V2 V4 := hH
  clear hH hne hiN
  replace Sa : Hid (My V4 bs z9l false 0 N2 N2) := Sa.out.later hb
  replace Sr : Hid (Ny V4 br z9l false 0 N2 N2) := Sr.out.later hb
  replace HB : Hid (Below w.heap.size w V4) := HB.out.trans (hb.mono HB.out.size)
  clear hb
  have hLt : Lt (V4.alloc (.cells #[.int .u8 120] 5)) V4.heap.size [120] := lt_new V4 [120]
  have hcvt := conv_mark (V4.alloc (.cells #[.int .u8 120] 5)) V4.heap.size [120] 1 1 hLt
  simp only [List.length_cons, List.length_nil, Nat.zero_add] at hcvt
  have hb : Below V4.heap.size V4 ((V4.alloc (.cells #[.int .u8 120] 5)).freeze ⟨V4.heap.size, 1, none⟩ 1) := ext_frz (bel1 _ _) _ _ (Nat.le_refl _)
  have Rt : Hid (Rd ((V4.alloc (.cells #[.int .u8 120] 5)).freeze ⟨V4.heap.size, 1, none⟩ 1) (some ⟨V4.heap.size, 0, none⟩) 1 1 [120]) := (hLt.rd (byt5 _ (by decide)) 1 (by decide)).frz _ _
  replace Sa : Hid (My ((V4.alloc (.cells #[.int .u8 120] 5)).freeze ⟨V4.heap.size, 1, none⟩ 1) bs z9l false 0 N2 N2) := Sa.out.later hb
  replace Sr : Hid (Ny ((V4.alloc (.cells #[.int .u8 120] 5)).freeze ⟨V4.heap.size, 1, none⟩ 1) br z9l false 0 N2 N2) := Sr.out.later hb
  replace HB : Hid (Below w.heap.size w ((V4.alloc (.cells #[.int .u8 120] 5)).freeze ⟨V4.heap.size, 1, none⟩ 1)) := HB.out.trans (hb.mono HB.out.size)
  clear hb
  go_wp2_with fail
  refine (mixhash10_c bs z9l false 0 N2 N2 (some ⟨V4.heap.size, 0, none⟩) 1 1 [120] _ Sa.out Rt.out (HG.out.later HB.out) (by decide)).mono ?_
  rintro e V11 ⟨rfl, HS', hb⟩
  replace Sa := HS'
  clear HS'
  clear hcvt hLt Rt
  replace Sr : Hid (Ny V11 br z9l false 0 N2 N2) := Sr.out.extb hb (by omega)
  replace HB : Hid (Below w.heap.size w V11) := hb.below HB.out (by omega)
  clear hb
  have hLt : Lt (V11.alloc (.cells #[.int .u8 120] 5)) V11.heap.size [120] := lt_new V11 [120]
  have hcvt := conv_mark (V11.alloc (.cells #[.int .u8 120] 5)) V11.heap.size [120] 1 1 hLt
  simp only [List.length_cons, List.length_nil, Nat.zero_add] at hcvt
  have hb : Below V11.heap.size V11 ((V11.alloc (.cells #[.int .u8 120] 5)).freeze ⟨V11.heap.size, 1, none⟩ 1) := ext_frz (bel1 _ _) _ _ (Nat.le_refl _)
  have Rt : Hid (Rd ((V11.alloc (.cells #[.int .u8 120] 5)).freeze ⟨V11.heap.size, 1, none⟩ 1) (some ⟨V11.heap.size, 0, none⟩) 1 1 [120]) := (hLt.rd (byt5 _ (by decide)) 1 (by decide)).frz _ _
  replace Sa : Hid (My ((V11.alloc (.cells #[.int .u8 120] 5)).freeze ⟨V11.heap.size, 1, none⟩ 1) bs z9l false 0 (sum7 (N2 ++ [120])) N2) := Sa.out.later hb
  replace Sr : Hid (Ny ((V11.alloc (.cells #[.int .u8 120] 5)).freeze ⟨V11.heap.size, 1, none⟩ 1) br z9l false 0 N2 N2) := Sr.out.later hb
  replace HB : Hid (Below w.heap.size w ((V11.alloc (.cells #[.int .u8 120] 5)).freeze ⟨V11.heap.size, 1, none⟩ 1)) := HB.out.trans (hb.mono HB.out.size)
  clear hb
  go_wp2_with fail
  refine (rmixhash10_c br z9l false 0 N2 N2 (some ⟨V11.heap.size, 0, none⟩) 1 1 [120] _ Sr.out Rt.out (HQ.out.later HB.out) (by decide)).mono ?_
  rintro e V12 ⟨rfl, HS', hb⟩
  replace Sr := HS'
  clear HS'
  clear hcvt hLt Rt
  replace Sa : Hid (My V12 bs z9l false 0 (sum7 (N2 ++ [120])) N2) := Sa.out.extb hb (by omega)
  replace HB : Hid (Below w.heap.size w V12) := hb.below HB.out (by omega)
  clear hb
  obtain ⟨H1, hH1⟩ : ∃ q, q = sum7 (N2 ++ [120]) := ⟨_, rfl⟩
  rw [← hH1] at Sa Sr
  clear hH1
  have hLt : Lt (V12.alloc (.cells #[.int .u8 121] 5)) V12.heap.size [121] := lt_new V12 [121]
  have hcvt := conv_mark (V12.alloc (.cells #[.int .u8 121] 5)) V12.heap.size [121] 1 1 hLt
  simp only [List.length_cons, List.length_nil, Nat.zero_add] at hcvt
  have hb : Below V12.heap.size V12 ((V12.alloc (.cells #[.int .u8 121] 5)).freeze ⟨V12.heap.size, 1, none⟩ 1) := ext_frz (bel1 _ _) _ _ (Nat.le_refl _)
  have Rt : Hid (Rd ((V12.alloc (.cells #[.int .u8 121] 5)).freeze ⟨V12.heap.size, 1, none⟩ 1) (some ⟨V12.heap.size, 0, none⟩) 1 1 [121]) := (hLt.rd (byt5 _ (by decide)) 1 (by decide)).frz _ _
  replace Sa : Hid (My ((V12.alloc (.cells #[.int .u8 121] 5)).freeze ⟨V12.heap.size, 1, none⟩ 1) bs z9l false 0 H1 N2) := Sa.out.later hb
  replace Sr : Hid (Ny ((V12.alloc (.cells #[.int .u8 121] 5)).freeze ⟨V12.heap.size, 1, none⟩ 1) br z9l false 0 H1 N2) := Sr.out.later hb
  replace HB : Hid (Below w.heap.size w ((V12.alloc (.cells #[.int .u8 121] 5)).freeze ⟨V12.heap.size, 1, none⟩ 1)) := HB.out.trans (hb.mono HB.out.size)
  clear hb
  go_wp2_with fail
  refine (mixkey10_c bs z9l false 0 H1 N2 (some ⟨V12.heap.size, 0, none⟩) 1 1 [121] _ Sa.out Rt.out (HG.out.later HB.out) (by decide)).mono ?_
  rintro e V13 ⟨K1, C1, rfl, HC1, HK1, HS', hb⟩
  replace Sa := HS'
  clear HS'
  clear hcvt hLt Rt
  replace Sr : Hid (Ny V13 br z9l false 0 H1 N2) := Sr.out.extb hb (by omega)
  replace HB : Hid (Below w.heap.size w V13) := hb.below HB.out (by omega)
  clear hb
  have hLt : Lt (V13.alloc (.cells #[.int .u8 121] 5)) V13.heap.size [121] := lt_new V13 [121]
  have hcvt := conv_mark (V13.alloc (.cells #[.int .u8 121] 5)) V13.heap.size [121] 1 1 hLt
  simp only [List.length_cons, List.length_nil, Nat.zero_add] at hcvt
  have hb : Below V13.heap.size V13 ((V13.alloc (.cells #[.int .u8 121] 5)).freeze ⟨V13.heap.size, 1, none⟩ 1) := ext_frz (bel1 _ _) _ _ (Nat.le_refl _)
  have Rt : Hid (Rd ((V13.alloc (.cells #[.int .u8 121] 5)).freeze ⟨V13.heap.size, 1, none⟩ 1) (some ⟨V13.heap.size, 0, none⟩) 1 1 [121]) := (hLt.rd (byt5 _ (by decide)) 1 (by decide)).frz _ _
  replace Sa : Hid (My ((V13.alloc (.cells #[.int .u8 121] 5)).freeze ⟨V13.heap.size, 1, none⟩ 1) bs K1 true 0 H1 C1) := Sa.out.later hb
  replace Sr : Hid (Ny ((V13.alloc (.cells #[.int .u8 121] 5)).freeze ⟨V13.heap.size, 1, none⟩ 1) br z9l false 0 H1 N2) := Sr.out.later hb
  replace HB : Hid (Below w.heap.size w ((V13.alloc (.cells #[.int .u8 121] 5)).freeze ⟨V13.heap.size, 1, none⟩ 1)) := HB.out.trans (hb.mono HB.out.size)
  clear hb
  go_wp2_with fail
  refine (rmixkey10_c br z9l false 0 H1 N2 (some ⟨V13.heap.size, 0, none⟩) 1 1 [121] _ Sr.out Rt.out (HQ.out.later HB.out) (by decide)).mono ?_
  rintro e V14 ⟨K2, C2, rfl, HC2, HK2, HS', hb⟩
  replace Sr := HS'
  clear HS'
  clear hcvt hLt Rt
  replace Sa : Hid (My V14 bs K1 true 0 H1 C1) := Sa.out.extb hb (by omega)
  replace HB : Hid (Below w.heap.size w V14) := hb.below HB.out (by omega)
  clear hb
  have eC : C2 = C1 := by rw [HC2.out, HC1.out]
  subst eC
  clear HK1 HK2 HC2
  go_wp2_with fail
  refine (split10_c bs K1 true 0 H1 C2 _ Sa.out (HG.out.later HB.out)).mono ?_
  rintro e V15 ⟨c1, c2, A, B, rfl, HA, HBk, S1, S2, -, -, -, hb⟩
  replace Sa : Hid (My V15 bs K1 true 0 H1 C2) := Sa.out.later hb
  replace Sr : Hid (Ny V15 br K2 true 0 H1 C2) := Sr.out.later hb
  replace HB : Hid (Below w.heap.size w V15) := HB.out.trans (hb.mono HB.out.size)
  clear hb
  have hne : ∀ u, Sem.run Tryd.prog (binOp .neq 27 (.agg (List.map (Value.int .u8) A).toArray) (.agg (List.map (Value.int .u8) B).toArray)) u = .ok (.bool true) u := fun u => by
    rw [HA.out, HBk.out, HC1.out, HN.out, kn10a, kn10b]
    kernel_rfl
  clear HA HBk HC1 HN
  obtain ⟨U, hU⟩ : ∃ U, U = V15 := ⟨_, rfl⟩
  rw [← hU] at Sa Sr HB S1 S2 ⊢
  clear hU
  obtain ⟨_, _, hiH⟩ := bn32_cells Sr.out.bh
  obtain ⟨_, _, hiC⟩ := bn32_cells Sr.out.bc
  have hqH : ∀ u, Sem.run Tryd.prog (binOp .eql 27 (.agg (List.map (Value.int .u8) H1).toArray) (.agg (List.map (Value.int .u8) H1).toArray)) u = .ok (.bool true) u := fun u => eql32 H1 H1 Sr.out.bh (rfl) u
  have hqC : ∀ u, Sem.run Tryd.prog (binOp .eql 27 (.agg (List.map (Value.int .u8) C2).toArray) (.agg (List.map (Value.int .u8) C2).toArray)) u = .ok (.bool true) u := fun u => eql32 C2 C2 Sr.out.bc (rfl) u
  go_upto_region 10 with fail
  refine wp_region_noPanic ?_
  refine wp_region_held_drew (S := Ext U) (by kernel_rfl) (Ext.refl _).drew (fun hH => ?_)
  change wpAnyH _ _ _ _ _ _ #[false, false, false, false, false, false, false, false, false, false, false, false, false, false, false, false, false, false, false, false, false, false, false, false, false, false, false, false, false, false, false, false, false, false, false, false, false, false, false, false] _ _
  refine wpAnyH_take (i := 0) (oi := ?o0b) (v := ?v0b) ?h0b (by kernel_rfl) ?f0b ?r0b (fun _ _ _ h => h) (Or.inl ⟨?w0b, ?y0b⟩) (by assumption) ?t0b
  case h0b => simp only [List.getElem?_toArray]; rfl
  case f0b => kernel_rfl
  case r0b => kernel_rfl
  case w0b => rfl
  case y0b => (intro u hu; (go_simp) <;> with_reducible rfl)
  try simp only [Act.put, List.setIfInBounds_toArray, List.set_cons_zero, List.set_cons_succ]
  refine wpAnyH_take (i := 2) (oi := ?o2b) (v := ?v2b) ?h2b (by kernel_rfl) ?f2b ?r2b (fun _ _ _ h => h) (Or.inl ⟨?w2b, ?y2b⟩) (by assumption) ?t2b
  case h2b => simp only [List.getElem?_toArray]; rfl
  case f2b => kernel_rfl
  case r2b => kernel_rfl
  case w2b => rfl
  case y2b => (intro u hu; (go_simp) <;> with_reducible rfl)
  try simp only [Act.put, List.setIfInBounds_toArray, List.set_cons_zero, List.set_cons_succ]
  refine wpAnyH_take (i := 3) (oi := ?o3b) (v := ?v3b) ?h3b (by kernel_rfl) ?f3b ?r3b (fun _ _ _ h => h) (Or.inl ⟨?w3b, ?y3b⟩) (by assumption) ?t3b
  case h3b => simp only [List.getElem?_toArray]; rfl
  case f3b => kernel_rfl
  case r3b => kernel_rfl
  case w3b => rfl
  case y3b => (intro u hu; (go_simp) <;> with_reducible rfl)
  try simp only [Act.put, List.setIfInBounds_toArray, List.set_cons_zero, List.set_cons_succ]
  refine wpAnyH_take (i := 4) (oi := ?o4b) (v := ?v4b) ?h4b (by kernel_rfl) ?f4b ?r4b (fun _ _ _ h => h) (Or.inl ⟨?w4b, ?y4b⟩) (by assumption) ?t4b
  case h4b => simp only [List.getElem?_toArray]; rfl
  case f4b => kernel_rfl
  case r4b => kernel_rfl
  case w4b => rfl
  case y4b => (intro u hu; (go_simp) <;> with_reducible rfl)
  try simp only [Act.put, List.setIfInBounds_toArray, List.set_cons_zero, List.set_cons_succ]
  refine wpAnyH_take (i := 5) (oi := ?o5bl) (v := .agg (List.map (Value.int .u8) H1).toArray) ?h5bl (by kernel_rfl) ?f5bl ?r5bl (fun _ _ _ h => h) ?y5bl (by assumption) ?t5bl
  case h5bl => simp only [List.getElem?_toArray]; rfl
  case f5bl => kernel_rfl
  case r5bl => kernel_rfl
  case y5bl => exact yieldsIf_load_mid (by rfl) 27 (.tmp 47) rfl br 34 rfl (List.map (Value.int .u8) H1) _ (fun u hu => range_later hu Sr.out.ho.rng) Tryd.underlying27 rfl hiH
  try simp only [Act.put, List.setIfInBounds_toArray, List.set_cons_zero, List.set_cons_succ]
  refine wpAnyH_ready (rs := [1]) (by kernel_rfl) (by simp) ?_
  refine AllReadyH.cons (o := ?o1b) ?h1b (fun K hK => ?_) AllReadyH.nil
  case h1b => simp only [List.getElem?_toArray]; rfl
  go_simp
  refine (hash10_c bs K1 true 0 H1 C2 _ (Sa.out.later hH)).mono ?_
  rintro e W1 ⟨rfl, hb⟩
  refine hK.out _ _ (hH.trans hb) (fun hH' => ?_)
  clear hK K hH
  have hH := hH'
  clear hH'
  try simp only [List.setIfInBounds_toArray, List.set]
  clear hb
  refine wpAnyH_take (i := 6) (oi := ?o6b) (v := ?v6b) ?h6b (by kernel_rfl) ?f6b ?r6b (fun _ _ _ h => h) (Or.inl ⟨?w6b, ?y6b⟩) (by assumption) ?t6b
  case h6b => simp only [List.getElem?_toArray]; rfl
  case f6b => kernel_rfl
  case r6b => kernel_rfl
  case w6b => rfl
  case y6b => (intro u hu; (go_simp) <;> with_reducible rfl)
  try simp only [Act.put, List.setIfInBounds_toArray, List.set_cons_zero, List.set_cons_succ]
  refine wpAnyH_take (i := 7) (oi := ?o7b) (v := ?v7b) ?h7b (by kernel_rfl) ?f7b ?r7b (fun _ _ _ h => h) (Or.inl ⟨?w7b, ?y7b⟩) (by assumption) ?t7b
  case h7b => simp only [List.getElem?_toArray]; rfl
  case f7b => kernel_rfl
  case r7b => kernel_rfl
  case w7b => rfl
  case y7b => (intro u hu; (go_simp) <;> with_reducible rfl)
  try simp only [Act.put, List.setIfInBounds_toArray, List.set_cons_zero, List.set_cons_succ]
  refine wpAnyH_take (i := 8) (oi := ?o8b) (v := ?v8b) ?h8b (by kernel_rfl) ?f8b ?r8b (fun _ _ _ h => h) (Or.inl ⟨?w8b, ?y8b⟩) (by assumption) ?t8b
  case h8b => simp only [List.getElem?_toArray]; rfl
  case f8b => kernel_rfl
  case r8b => kernel_rfl
  case w8b => rfl
  case y8b => (intro u hu; (go_simp) <;> with_reducible rfl)
  try simp only [Act.put, List.setIfInBounds_toArray, List.set_cons_zero, List.set_cons_succ]
  refine wpAnyH_take (i := 10) (oi := ?o10b) (v := ?v10b) ?h10b (by kernel_rfl) ?f10b ?r10b (fun _ _ _ h => h) (Or.inl ⟨?w10b, ?y10b⟩) (by assumption) ?t10b
  case h10b => simp only [List.getElem?_toArray]; rfl
  case f10b => kernel_rfl
  case r10b => kernel_rfl
  case w10b => rfl
  case y10b => (intro u hu; (go_simp) <;> with_reducible rfl)
  try simp only [Act.put, List.setIfInBounds_toArray, List.set_cons_zero, List.set_cons_succ]
  refine wpAnyH_take (i := 11) (oi := ?o11b) (v := ?v11b) ?h11b (by kernel_rfl) ?f11b ?r11b (fun _ _ _ h => h) (Or.inl ⟨?w11b, ?y11b⟩) (by assumption) ?t11b
  case h11b => simp only [List.getElem?_toArray]; rfl
  case f11b => kernel_rfl
  case r11b => kernel_rfl
  case w11b => rfl
  case y11b => (intro u hu; (go_simp) <;> with_reducible rfl)
  try simp only [Act.put, List.setIfInBounds_toArray, List.set_cons_zero, List.set_cons_succ]
  refine wpAnyH_take (i := 12) (oi := ?o12b) (v := ?v12b) ?h12b (by kernel_rfl) ?f12b ?r12b (fun _ _ _ h => h) (Or.inl ⟨?w12b, ?y12b⟩) (by assumption) ?t12b
  case h12b => simp only [List.getElem?_toArray]; rfl
  case f12b => kernel_rfl
  case r12b => kernel_rfl
  case w12b => rfl
  case y12b => (intro u hu; (go_simp) <;> with_reducible rfl)
  try simp only [Act.put, List.setIfInBounds_toArray, List.set_cons_zero, List.set_cons_succ]
  refine wpAnyH_take (i := 13) (oi := ?o13bl) (v := .agg (List.map (Value.int .u8) C2).toArray) ?h13bl (by kernel_rfl) ?f13bl ?r13bl (fun _ _ _ h => h) ?y13bl (by assumption) ?t13bl
  case h13bl => simp only [List.getElem?_toArray]; rfl
  case f13bl => kernel_rfl
  case r13bl => kernel_rfl
  case y13bl => exact yieldsIf_load_mid (by rfl) 27 (.tmp 55) rfl br 66 rfl (List.map (Value.int .u8) C2) _ (fun u hu => range_later hu Sr.out.co.rng) Tryd.underlying27 rfl hiC
  try simp only [Act.put, List.setIfInBounds_toArray, List.set_cons_zero, List.set_cons_succ]
  refine wpAnyH_ready (rs := [9]) (by kernel_rfl) (by simp) ?_
  refine AllReadyH.cons (o := ?o9b) ?h9b (fun K hK => ?_) AllReadyH.nil
  case h9b => simp only [List.getElem?_toArray]; rfl
  go_simp
  refine (chain10_c bs K1 true 0 H1 C2 _ (Sa.out.later hH)).mono ?_
  rintro e W2 ⟨rfl, hb⟩
  refine hK.out _ _ (hH.trans hb) (fun hH' => ?_)
  clear hK K hH
  have hH := hH'
  clear hH'
  try simp only [List.setIfInBounds_toArray, List.set]
  clear hb
  refine wpAnyH_take (i := 14) (oi := ?o14b) (v := ?v14b) ?h14b (by kernel_rfl) ?f14b ?r14b (fun _ _ _ h => h) (Or.inl ⟨?w14b, ?y14b⟩) (by assumption) ?t14b
  case h14b => simp only [List.getElem?_toArray]; rfl
  case f14b => kernel_rfl
  case r14b => kernel_rfl
  case w14b => rfl
  case y14b => (intro u hu; (go_simp) <;> with_reducible rfl)
  try simp only [Act.put, List.setIfInBounds_toArray, List.set_cons_zero, List.set_cons_succ]
  refine wpAnyH_take (i := 15) (oi := ?o15b) (v := ?v15b) ?h15b (by kernel_rfl) ?f15b ?r15b (fun _ _ _ h => h) (Or.inl ⟨?w15b, ?y15b⟩) (by assumption) ?t15b
  case h15b => simp only [List.getElem?_toArray]; rfl
  case f15b => kernel_rfl
  case r15b => kernel_rfl
  case w15b => rfl
  case y15b => (intro u hu; (go_simp) <;> with_reducible rfl)
  try simp only [Act.put, List.setIfInBounds_toArray, List.set_cons_zero, List.set_cons_succ]
  refine wpAnyH_take (i := 16) (oi := ?o16b) (v := ?v16b) ?h16b (by kernel_rfl) ?f16b ?r16b (fun _ _ _ h => h) (Or.inl ⟨?w16b, ?y16b⟩) (by assumption) ?t16b
  case h16b => simp only [List.getElem?_toArray]; rfl
  case f16b => kernel_rfl
  case r16b => kernel_rfl
  case w16b => rfl
  case y16b => (intro u hu; (go_simp) <;> with_reducible rfl)
  try simp only [Act.put, List.setIfInBounds_toArray, List.set_cons_zero, List.set_cons_succ]
  refine wpAnyH_take (i := 17) (oi := ?o17b) (v := ?v17b) ?h17b (by kernel_rfl) ?f17b ?r17b (fun _ _ _ h => h) (Or.inl ⟨?w17b, ?y17b⟩) (by assumption) ?t17b
  case h17b => simp only [List.getElem?_toArray]; rfl
  case f17b => kernel_rfl
  case r17b => kernel_rfl
  case w17b => rfl
  case y17b => (intro u hu; (go_simp) <;> with_reducible rfl)
  try simp only [Act.put, List.setIfInBounds_toArray, List.set_cons_zero, List.set_cons_succ]
  refine wpAnyH_ready (rs := [18]) (by kernel_rfl) (by simp) ?_
  refine AllReadyH.cons (o := ?o18b) ?h18b (fun K hK => ?_) AllReadyH.nil
  case h18b => simp only [List.getElem?_toArray]; rfl
  go_simp
  refine (haskey10_c bs K1 true 0 H1 C2 _ (Sa.out.later hH)).mono ?_
  rintro e W3 ⟨rfl, hw⟩
  rw [hw]
  clear hw W3
  refine hK.out _ _ hH (fun hH' => ?_)
  clear hK K hH
  have hH := hH'
  clear hH'
  try simp only [List.setIfInBounds_toArray, List.set]
  refine wpAnyH_take (i := 19) (oi := ?o19b) (v := ?v19b) ?h19b (by kernel_rfl) ?f19b ?r19b (fun _ _ _ h => h) (Or.inl ⟨?w19b, ?y19b⟩) (by assumption) ?t19b
  case h19b => simp only [List.getElem?_toArray]; rfl
  case f19b => kernel_rfl
  case r19b => kernel_rfl
  case w19b => rfl
  case y19b => (intro u hu; (go_simp) <;> with_reducible rfl)
  try simp only [Act.put, List.setIfInBounds_toArray, List.set_cons_zero, List.set_cons_succ]
  refine wpAnyH_take (i := 20) (oi := ?o20b) (v := ?v20b) ?h20b (by kernel_rfl) ?f20b ?r20b (fun _ _ _ h => h) (Or.inl ⟨?w20b, ?y20b⟩) (by assumption) ?t20b
  case h20b => simp only [List.getElem?_toArray]; rfl
  case f20b => kernel_rfl
  case r20b => kernel_rfl
  case w20b => rfl
  case y20b => (intro u hu; (go_simp) <;> with_reducible rfl)
  try simp only [Act.put, List.setIfInBounds_toArray, List.set_cons_zero, List.set_cons_succ]
  refine wpAnyH_take (i := 21) (oi := ?o21b) (v := ?v21b) ?h21b (by kernel_rfl) ?f21b ?r21b (fun _ _ _ h => h) (Or.inl ⟨?w21b, ?y21b⟩) (by assumption) ?t21b
  case h21b => simp only [List.getElem?_toArray]; rfl
  case f21b => kernel_rfl
  case r21b => kernel_rfl
  case w21b => rfl
  case y21b => (intro u hu; (go_simp) <;> with_reducible rfl)
  try simp only [Act.put, List.setIfInBounds_toArray, List.set_cons_zero, List.set_cons_succ]
  refine wpAnyH_take (i := 22) (oi := ?o22b) (v := ?v22b) ?h22b (by kernel_rfl) ?f22b ?r22b (fun _ _ _ h => h) (Or.inl ⟨?w22b, ?y22b⟩) (by assumption) ?t22b
  case h22b => simp only [List.getElem?_toArray]; rfl
  case f22b => kernel_rfl
  case r22b => kernel_rfl
  case w22b => rfl
  case y22b => (intro u hu; (go_simp) <;> with_reducible rfl)
  try simp only [Act.put, List.setIfInBounds_toArray, List.set_cons_zero, List.set_cons_succ]
  refine wpAnyH_take (i := 23) (oi := ?o23b) (v := ?v23b) ?h23b (by kernel_rfl) ?f23b ?r23b (fun _ _ _ h => h) (Or.inl ⟨?w23b, ?y23b⟩) (by assumption) ?t23b
  case h23b => simp only [List.getElem?_toArray]; rfl
  case f23b => kernel_rfl
  case r23b => kernel_rfl
  case w23b => rfl
  case y23b => (intro u hu; (go_simp) <;> with_reducible rfl)
  try simp only [Act.put, List.setIfInBounds_toArray, List.set_cons_zero, List.set_cons_succ]
  refine wpAnyH_take (i := 24) (oi := ?o24b) (v := ?v24b) ?h24b (by kernel_rfl) ?f24b ?r24b (fun _ _ _ h => h) (Or.inl ⟨?w24b, ?y24b⟩) (by assumption) ?t24b
  case h24b => simp only [List.getElem?_toArray]; rfl
  case f24b => kernel_rfl
  case r24b => kernel_rfl
  case w24b => rfl
  case y24b => (intro u hu; (go_simp) <;> with_reducible rfl)
  try simp only [Act.put, List.setIfInBounds_toArray, List.set_cons_zero, List.set_cons_succ]
  refine wpAnyH_take (i := 25) (oi := ?o25b) (v := ?v25b) ?h25b (by kernel_rfl) ?f25b ?r25b (fun _ _ _ h => h) (Or.inl ⟨?w25b, ?y25b⟩) (by assumption) ?t25b
  case h25b => simp only [List.getElem?_toArray]; rfl
  case f25b => kernel_rfl
  case r25b => kernel_rfl
  case w25b => rfl
  case y25b => (intro u hu; (go_simp) <;> with_reducible rfl)
  try simp only [Act.put, List.setIfInBounds_toArray, List.set_cons_zero, List.set_cons_succ]
  refine wpAnyH_take (i := 26) (oi := ?o26b) (v := ?v26b) ?h26b (by kernel_rfl) ?f26b ?r26b (fun _ _ _ h => h) (Or.inl ⟨?w26b, ?y26b⟩) (by assumption) ?t26b
  case h26b => simp only [List.getElem?_toArray]; rfl
  case f26b => kernel_rfl
  case r26b => kernel_rfl
  case w26b => rfl
  case y26b => (intro u hu; (go_simp) <;> with_reducible rfl)
  try simp only [Act.put, List.setIfInBounds_toArray, List.set_cons_zero, List.set_cons_succ]
  refine wpAnyH_take (i := 27) (oi := ?o27b) (v := ?v27b) ?h27b (by kernel_rfl) ?f27b ?r27b (fun _ _ _ h => h) (Or.inl ⟨?w27b, ?y27b⟩) (by assumption) ?t27b
  case h27b => simp only [List.getElem?_toArray]; rfl
  case f27b => kernel_rfl
  case r27b => kernel_rfl
  case w27b => rfl
  case y27b => (intro u hu; (go_simp) <;> with_reducible rfl)
  try simp only [Act.put, List.setIfInBounds_toArray, List.set_cons_zero, List.set_cons_succ]
  refine wpAnyH_take (i := 28) (oi := ?o28b) (v := ?v28b) ?h28b (by kernel_rfl) ?f28b ?r28b (fun _ _ _ h => h) (Or.inl ⟨?w28b, ?y28b⟩) (by assumption) ?t28b
  case h28b => simp only [List.getElem?_toArray]; rfl
  case f28b => kernel_rfl
  case r28b => kernel_rfl
  case w28b => rfl
  case y28b => (intro u hu; (go_simp) <;> with_reducible rfl)
  try simp only [Act.put, List.setIfInBounds_toArray, List.set_cons_zero, List.set_cons_succ]
  refine wpAnyH_take (i := 29) (oi := ?o29b) (v := ?v29b) ?h29b (by kernel_rfl) ?f29b ?r29b (fun _ _ _ h => h) (Or.inl ⟨?w29b, ?y29b⟩) (by assumption) ?t29b
  case h29b => simp only [List.getElem?_toArray]; rfl
  case f29b => kernel_rfl
  case r29b => kernel_rfl
  case w29b => rfl
  case y29b => (intro u hu; (go_simp) <;> with_reducible rfl)
  try simp only [Act.put, List.setIfInBounds_toArray, List.set_cons_zero, List.set_cons_succ]
  refine wpAnyH_ready (rs := [30]) (by kernel_rfl) (by simp) ?_
  refine AllReadyH.cons (o := ?o30b) ?h30b (fun K hK => ?_) AllReadyH.nil
  case h30b => simp only [List.getElem?_toArray]; rfl
  go_simp
  refine (has9_c c1 A true 0 _ (S1.out.later hH)).mono ?_
  rintro e W4 ⟨rfl, hw⟩
  rw [hw]
  clear hw W4
  refine hK.out _ _ hH (fun hH' => ?_)
  clear hK K hH
  have hH := hH'
  clear hH'
  try simp only [List.setIfInBounds_toArray, List.set]
  refine wpAnyH_take (i := 31) (oi := ?o31b) (v := ?v31b) ?h31b (by kernel_rfl) ?f31b ?r31b (fun _ _ _ h => h) (Or.inl ⟨?w31b, ?y31b⟩) (by assumption) ?t31b
  case h31b => simp only [List.getElem?_toArray]; rfl
  case f31b => kernel_rfl
  case r31b => kernel_rfl
  case w31b => rfl
  case y31b => (intro u hu; (go_simp) <;> with_reducible rfl)
  try simp only [Act.put, List.setIfInBounds_toArray, List.set_cons_zero, List.set_cons_succ]
  refine wpAnyH_take (i := 32) (oi := ?o32b) (v := ?v32b) ?h32b (by kernel_rfl) ?f32b ?r32b (fun _ _ _ h => h) (Or.inl ⟨?w32b, ?y32b⟩) (by assumption) ?t32b
  case h32b => simp only [List.getElem?_toArray]; rfl
  case f32b => kernel_rfl
  case r32b => kernel_rfl
  case w32b => rfl
  case y32b => (intro u hu; (go_simp) <;> with_reducible rfl)
  try simp only [Act.put, List.setIfInBounds_toArray, List.set_cons_zero, List.set_cons_succ]
  refine wpAnyH_take (i := 33) (oi := ?o33b) (v := ?v33b) ?h33b (by kernel_rfl) ?f33b ?r33b (fun _ _ _ h => h) (Or.inl ⟨?w33b, ?y33b⟩) (by assumption) ?t33b
  case h33b => simp only [List.getElem?_toArray]; rfl
  case f33b => kernel_rfl
  case r33b => kernel_rfl
  case w33b => rfl
  case y33b => (intro u hu; (go_simp) <;> with_reducible rfl)
  try simp only [Act.put, List.setIfInBounds_toArray, List.set_cons_zero, List.set_cons_succ]
  refine wpAnyH_take (i := 35) (oi := ?o35b) (v := ?v35b) ?h35b (by kernel_rfl) ?f35b ?r35b (fun _ _ _ h => h) (Or.inl ⟨?w35b, ?y35b⟩) (by assumption) ?t35b
  case h35b => simp only [List.getElem?_toArray]; rfl
  case f35b => kernel_rfl
  case r35b => kernel_rfl
  case w35b => rfl
  case y35b => (intro u hu; (go_simp) <;> with_reducible rfl)
  try simp only [Act.put, List.setIfInBounds_toArray, List.set_cons_zero, List.set_cons_succ]
  refine wpAnyH_ready (rs := [34]) (by kernel_rfl) (by simp) ?_
  refine AllReadyH.cons (o := ?o34b) ?h34b (fun K hK => ?_) AllReadyH.nil
  case h34b => simp only [List.getElem?_toArray]; rfl
  go_simp
  refine (key9_c c1 A true 0 _ (S1.out.later hH)).mono ?_
  rintro e W5 ⟨rfl, hb⟩
  refine hK.out _ _ (hH.trans hb) (fun hH' => ?_)
  clear hK K hH
  have hH := hH'
  clear hH'
  try simp only [List.setIfInBounds_toArray, List.set]
  clear hb
  refine wpAnyH_ready (rs := [36]) (by kernel_rfl) (by simp) ?_
  refine AllReadyH.cons (o := ?o36b) ?h36b (fun K hK => ?_) AllReadyH.nil
  case h36b => simp only [List.getElem?_toArray]; rfl
  go_simp
  refine (key9_c c2 B true 0 _ (S2.out.later hH)).mono ?_
  rintro e W6 ⟨rfl, hb⟩
  refine hK.out _ _ (hH.trans hb) (fun hH' => ?_)
  clear hK K hH
  have hH := hH'
  clear hH'
  try simp only [List.setIfInBounds_toArray, List.set]
  clear hb
  refine wpAnyH_take (i := 37) (oi := ?o37b) (v := ?v37b) ?h37b (by kernel_rfl) ?f37b ?r37b (fun _ _ _ h => h) (Or.inl ⟨?w37b, ?y37b⟩) (by assumption) ?t37b
  case h37b => simp only [List.getElem?_toArray]; rfl
  case f37b => kernel_rfl
  case r37b => kernel_rfl
  case w37b => rfl
  case y37b => (intro u hu; (go_simp) <;> with_reducible rfl)
  try simp only [Act.put, List.setIfInBounds_toArray, List.set_cons_zero, List.set_cons_succ]
  refine wpAnyH_take (i := 38) (oi := ?o38b) (v := ?v38b) ?h38b (by kernel_rfl) ?f38b ?r38b (fun _ _ _ h => h) (Or.inl ⟨?w38b, ?y38b⟩) (by assumption) ?t38b
  case h38b => simp only [List.getElem?_toArray]; rfl
  case f38b => kernel_rfl
  case r38b => kernel_rfl
  case w38b => rfl
  case y38b => (intro u hu; (go_simp) <;> with_reducible rfl)
  try simp only [Act.put, List.setIfInBounds_toArray, List.set_cons_zero, List.set_cons_succ]
  refine wpAnyH_take (i := 39) (oi := ?o39b) (v := ?v39b) ?h39b (by kernel_rfl) ?f39b ?r39b (fun _ _ _ h => h) (Or.inl ⟨?w39b, ?y39b⟩) (by assumption) ?t39b
  case h39b => simp only [List.getElem?_toArray]; rfl
  case f39b => kernel_rfl
  case r39b => kernel_rfl
  case w39b => rfl
  case y39b => (intro u hu; (go_simp) <;> with_reducible rfl)
  try simp only [Act.put, List.setIfInBounds_toArray, List.set_cons_zero, List.set_cons_succ]
  refine wpAnyH_done (by kernel_rfl) ?_ _
  refine NoPanic.normal ?_
  have hb2 : Below U.heap.size U W6 := hH
  replace HB : Hid (Below w.heap.size w W6) := HB.out.trans (hb2.mono HB.out.size)
  clear hH hb2
  go_wp2
  go_ret
  exact ⟨rfl, HB.out⟩
end Go.Proofs.YtmibjgkakolhiaaDoor
