/-
  ChachaBlocks' walk. No statement of the seat is proved here.
-/
import Derived.Test.YtiijnghlllapoaaDoorRBlk
import Derived.Test.YtiijnghlllapoaaDoorQKn
import Derived.Test.YtiijnghlllapoaaDoorQOwn
namespace Go.Proofs.YtiijnghlllapoaaDoor
open Go.RowKit

theorem bytes_of : ∀ (l : List Int), Byt l → ∃ xs : List UInt8, xs.length = l.length ∧ l.map (Value.int .u8) = xs.map Extern.Stop.cell
  | [], _ => ⟨[], rfl, rfl⟩
  | x :: l, h => by
    obtain ⟨xs, h1, h2⟩ := bytes_of l (fun y hy => h y (by simp [hy]))
    have hx := h x (by simp)
    have e : ((UInt8.ofNat x.toNat).toNat : Int) = x := by
      rw [UInt8.toNat_ofNat']
      omega
    refine ⟨UInt8.ofNat x.toNat :: xs, by simp [h1], ?_⟩
    rw [List.map_cons, List.map_cons, h2, Extern.Stop.cell]
    congr 2
    exact e.symm
theorem eql_same (a : List Int) (ha : Bn 64 a) (w : World) : Sem.run Tryd.prog (binOp .eql 28 (.agg (List.map (Value.int .u8) a).toArray) (.agg (List.map (Value.int .u8) a).toArray)) w = .ok (.bool true) w := by
  obtain ⟨xs, x1, x2⟩ := bytes_of a ha.byt
  rw [x2, run_eql_bytes (P := Tryd.prog) w 28 5 64 Tryd.underlying28 Tryd.underlying5 (fun _ => by kernel_rfl) xs xs (x1.trans ha.len) (x1.trans ha.len)]
  simp

set_option maxRecDepth 8000 in
set_option maxHeartbeats 8000000 in
theorem chachaBlocks_walk (key : List Int) (count : Int) (nonce : List Int) (a b c d : Int) (hk : Bn 32 key) (hc : 0 ≤ count ∧ count < 4294967296) (hn : Bn 12 nonce) (ha : 0 ≤ a ∧ a < 4294967296) (hb : 0 ≤ b ∧ b < 4294967296) (hcc : 0 ≤ c ∧ c < 4294967296) (hd : 0 ≤ d ∧ d < 4294967296) (w : World) (hg : Gr w) :
    Calls Tryd.prog 3 #[(.agg (List.map (Value.int .u8) key).toArray), .int .u32 count, (.agg (List.map (Value.int .u8) nonce).toArray), .int .u32 a, .int .u32 b, .int .u32 c, .int .u32 d] w fun e w' => e = .returned (.bool true) ∧ Below w.heap.size w w' := by
  have HK : Hid (Bn 32 key) := hk
  have HN : Hid (Bn 12 nonce) := hn
  have HWC : Hid (W32 count) := hc
  obtain ⟨c0, c1⟩ := hc
  clear hk hn
  obtain ⟨_, _, hiK⟩ := bn32_cells HK.out
  obtain ⟨_, _, hiN⟩ := bn12_cells HN.out
  go_enter Tryd.func3, Tryd.ntmps3
  go_upto_region 1 with fail
  have AK : Hid (Ar ((w.alloc (.cells (List.map (Value.int .u8) key).toArray 22)).alloc (.cells (List.map (Value.int .u8) nonce).toArray 24)) w.heap.size 32 (List.map (Value.int .u8) key)) := (ar_box w _ 32 HK.out.map_len _).later (bel1 _ _)
  have AN : Hid (Ar ((w.alloc (.cells (List.map (Value.int .u8) key).toArray 22)).alloc (.cells (List.map (Value.int .u8) nonce).toArray 24)) (w.heap.size + 1) 12 (List.map (Value.int .u8) nonce)) := by have := ar_box (w.alloc (.cells (List.map (Value.int .u8) key).toArray 22)) _ 12 HN.out.map_len 24; simpa [Hid] using this
  have HB : Hid (Below w.heap.size w ((w.alloc (.cells (List.map (Value.int .u8) key).toArray 22)).alloc (.cells (List.map (Value.int .u8) nonce).toArray 24))) := bel2 _ _ _
  generalize (w.alloc (.cells (List.map (Value.int .u8) key).toArray 22)).alloc (.cells (List.map (Value.int .u8) nonce).toArray 24) = W0 at *
  have k1 : w.heap.size < w.heap.size + 1 := by omega
  generalize w.heap.size + 1 = q1 at *
  have HG : Hid (Gr W0) := hg.later HB.out
  clear hg
  go_wp2_with fail
  refine (quarter_c a b c d ha hb hcc hd _).mono ?_
  rintro e V1 ⟨p, q, r, s, rfl, HQ, -, -, -, -, hbl⟩
  replace AK : Hid (Ar V1 w.heap.size 32 (List.map (Value.int .u8) key)) := AK.out.later hbl
  replace AN : Hid (Ar V1 q1 12 (List.map (Value.int .u8) nonce)) := AN.out.later hbl
  replace HB : Hid (Below w.heap.size w V1) := HB.out.trans (hbl.mono HB.out.size)
  replace HG : Hid (Gr V1) := HG.out.later hbl
  clear hbl
  go_wp2_with fail
  refine (rquarter_c a b c d ha hb hcc hd _).mono ?_
  rintro e V2 ⟨p', q', r', s', rfl, HQ', -, -, -, -, hbl⟩
  replace AK : Hid (Ar V2 w.heap.size 32 (List.map (Value.int .u8) key)) := AK.out.later hbl
  replace AN : Hid (Ar V2 q1 12 (List.map (Value.int .u8) nonce)) := AN.out.later hbl
  replace HB : Hid (Below w.heap.size w V2) := HB.out.trans (hbl.mono HB.out.size)
  replace HG : Hid (Gr V2) := HG.out.later hbl
  clear hbl
  have e := HQ.out.trans HQ'.out.symm
  clear HQ HQ'
  simp only [Prod.mk.injEq] at e
  obtain ⟨rfl, rfl, rfl, rfl⟩ := e
  go_upto_region 3 with fail
  refine wp_region_noPanic ?_
  refine wp_region_held_drew (S := Ext V2) (by kernel_rfl) (Ext.refl _).drew (fun hH => ?_)
  change wpAnyH _ _ _ _ _ _ #[false, false, false, false, false, false, false, false, false, false, false, false, false, false, false, false, false, false, false, false, false, false, false, false, false, false, false, false, false, false, false, false, false] _ _
  refine wpAnyH_ready (rs := [0]) (by kernel_rfl) (by simp) ?_
  refine AllReadyH.cons (o := ?o0b) ?h0b (fun K hK => ?_) AllReadyH.nil
  case h0b => simp only [List.getElem?_toArray]; rfl
  go_simp
  refine (known4_any _).mono ?_
  rintro e V3 ⟨rfl, hbl⟩
  refine hK.out _ _ (hH.trans hbl) (fun hH' => ?_)
  clear hK K hH
  have hH := hH'
  clear hH'
  try simp only [List.setIfInBounds_toArray, List.set]
  clear hbl
  refine wpAnyH_take (i := 1) (oi := ?o1b) (v := ?v1b) ?h1b (by kernel_rfl) ?f1b ?r1b (fun _ _ _ h => h) (Or.inl ⟨?w1b, ?y1b⟩) (by assumption) ?t1b
  case h1b => simp only [List.getElem?_toArray]; rfl
  case f1b => kernel_rfl
  case r1b => kernel_rfl
  case w1b => rfl
  case y1b => (intro u hu; (go_simp) <;> with_reducible rfl)
  try simp only [Act.put, List.setIfInBounds_toArray, List.set_cons_zero, List.set_cons_succ]
  refine wpAnyH_take (i := 2) (oi := ?o2b) (v := ?v2b) ?h2b (by kernel_rfl) ?f2b ?r2b (fun _ _ _ h => h) (Or.inl ⟨?w2b, ?y2b⟩) (by assumption) ?t2b
  case h2b => simp only [List.getElem?_toArray]; rfl
  case f2b => kernel_rfl
  case r2b => kernel_rfl
  case w2b => rfl
  case y2b => (intro u hu; (go_simp) <;> with_reducible rfl)
  try simp only [Act.put, List.setIfInBounds_toArray, List.set_cons_zero, List.set_cons_succ]
  refine wpAnyH_take (i := 3) (oi := ?o3b) (v := ?v3b) ?h3b (by kernel_rfl) ?f3b ?r3b (fun _ _ _ h => h) (Or.inl ⟨?w3b, ?y3b⟩) (by assumption) ?t3b
  case h3b => simp only [List.getElem?_toArray]; rfl
  case f3b => kernel_rfl
  case r3b => kernel_rfl
  case w3b => rfl
  case y3b => (intro u hu; (go_simp) <;> with_reducible rfl)
  try simp only [Act.put, List.setIfInBounds_toArray, List.set_cons_zero, List.set_cons_succ]
  refine wpAnyH_take (i := 4) (oi := ?o4b) (v := ?v4b) ?h4b (by kernel_rfl) ?f4b ?r4b (fun _ _ _ h => h) (Or.inl ⟨?w4b, ?y4b⟩) (by assumption) ?t4b
  case h4b => simp only [List.getElem?_toArray]; rfl
  case f4b => kernel_rfl
  case r4b => kernel_rfl
  case w4b => rfl
  case y4b => (intro u hu; (go_simp) <;> with_reducible rfl)
  try simp only [Act.put, List.setIfInBounds_toArray, List.set_cons_zero, List.set_cons_succ]
  refine wpAnyH_take (i := 5) (oi := ?o5b) (v := ?v5b) ?h5b (by kernel_rfl) ?f5b ?r5b (fun _ _ _ h => h) (Or.inl ⟨?w5b, ?y5b⟩) (by assumption) ?t5b
  case h5b => simp only [List.getElem?_toArray]; rfl
  case f5b => kernel_rfl
  case r5b => kernel_rfl
  case w5b => rfl
  case y5b => (intro u hu; (go_simp) <;> with_reducible rfl)
  try simp only [Act.put, List.setIfInBounds_toArray, List.set_cons_zero, List.set_cons_succ]
  refine wpAnyH_take (i := 6) (oi := ?o6b) (v := ?v6b) ?h6b (by kernel_rfl) ?f6b ?r6b (fun _ _ _ h => h) (Or.inl ⟨?w6b, ?y6b⟩) (by assumption) ?t6b
  case h6b => simp only [List.getElem?_toArray]; rfl
  case f6b => kernel_rfl
  case r6b => kernel_rfl
  case w6b => rfl
  case y6b => (intro u hu; (go_simp) <;> with_reducible rfl)
  try simp only [Act.put, List.setIfInBounds_toArray, List.set_cons_zero, List.set_cons_succ]
  refine wpAnyH_take (i := 7) (oi := ?o7b) (v := ?v7b) ?h7b (by kernel_rfl) ?f7b ?r7b (fun _ _ _ h => h) (Or.inl ⟨?w7b, ?y7b⟩) (by assumption) ?t7b
  case h7b => simp only [List.getElem?_toArray]; rfl
  case f7b => kernel_rfl
  case r7b => kernel_rfl
  case w7b => rfl
  case y7b => (intro u hu; (go_simp) <;> with_reducible rfl)
  try simp only [Act.put, List.setIfInBounds_toArray, List.set_cons_zero, List.set_cons_succ]
  refine wpAnyH_take (i := 8) (oi := ?o8b) (v := ?v8b) ?h8b (by kernel_rfl) ?f8b ?r8b (fun _ _ _ h => h) (Or.inl ⟨?w8b, ?y8b⟩) (by assumption) ?t8b
  case h8b => simp only [List.getElem?_toArray]; rfl
  case f8b => kernel_rfl
  case r8b => kernel_rfl
  case w8b => rfl
  case y8b => (intro u hu; (go_simp) <;> with_reducible rfl)
  try simp only [Act.put, List.setIfInBounds_toArray, List.set_cons_zero, List.set_cons_succ]
  refine wpAnyH_take (i := 9) (oi := ?o9b) (v := ?v9b) ?h9b (by kernel_rfl) ?f9b ?r9b (fun _ _ _ h => h) (Or.inl ⟨?w9b, ?y9b⟩) (by assumption) ?t9b
  case h9b => simp only [List.getElem?_toArray]; rfl
  case f9b => kernel_rfl
  case r9b => kernel_rfl
  case w9b => rfl
  case y9b => (intro u hu; (go_simp) <;> with_reducible rfl)
  try simp only [Act.put, List.setIfInBounds_toArray, List.set_cons_zero, List.set_cons_succ]
  refine wpAnyH_take (i := 10) (oi := ?o10b) (v := ?v10b) ?h10b (by kernel_rfl) ?f10b ?r10b (fun _ _ _ h => h) (Or.inl ⟨?w10b, ?y10b⟩) (by assumption) ?t10b
  case h10b => simp only [List.getElem?_toArray]; rfl
  case f10b => kernel_rfl
  case r10b => kernel_rfl
  case w10b => rfl
  case y10b => (intro u hu; (go_simp) <;> with_reducible rfl)
  try simp only [Act.put, List.setIfInBounds_toArray, List.set_cons_zero, List.set_cons_succ]
  refine wpAnyH_take (i := 11) (oi := ?o11b) (v := ?v11b) ?h11b (by kernel_rfl) ?f11b ?r11b (fun _ _ _ h => h) (Or.inl ⟨?w11b, ?y11b⟩) (by assumption) ?t11b
  case h11b => simp only [List.getElem?_toArray]; rfl
  case f11b => kernel_rfl
  case r11b => kernel_rfl
  case w11b => rfl
  case y11b => (intro u hu; (go_simp) <;> with_reducible rfl)
  try simp only [Act.put, List.setIfInBounds_toArray, List.set_cons_zero, List.set_cons_succ]
  refine wpAnyH_take (i := 12) (oi := ?o12b) (v := ?v12b) ?h12b (by kernel_rfl) ?f12b ?r12b (fun _ _ _ h => h) (Or.inl ⟨?w12b, ?y12b⟩) (by assumption) ?t12b
  case h12b => simp only [List.getElem?_toArray]; rfl
  case f12b => kernel_rfl
  case r12b => kernel_rfl
  case w12b => rfl
  case y12b => (intro u hu; (go_simp) <;> with_reducible rfl)
  try simp only [Act.put, List.setIfInBounds_toArray, List.set_cons_zero, List.set_cons_succ]
  refine wpAnyH_take (i := 13) (oi := ?o13b) (v := ?v13b) ?h13b (by kernel_rfl) ?f13b ?r13b (fun _ _ _ h => h) (Or.inl ⟨?w13b, ?y13b⟩) (by assumption) ?t13b
  case h13b => simp only [List.getElem?_toArray]; rfl
  case f13b => kernel_rfl
  case r13b => kernel_rfl
  case w13b => rfl
  case y13b => (intro u hu; (go_simp) <;> with_reducible rfl)
  try simp only [Act.put, List.setIfInBounds_toArray, List.set_cons_zero, List.set_cons_succ]
  refine wpAnyH_take (i := 14) (oi := ?o14b) (v := ?v14b) ?h14b (by kernel_rfl) ?f14b ?r14b (fun _ _ _ h => h) (Or.inl ⟨?w14b, ?y14b⟩) (by assumption) ?t14b
  case h14b => simp only [List.getElem?_toArray]; rfl
  case f14b => kernel_rfl
  case r14b => kernel_rfl
  case w14b => rfl
  case y14b => (intro u hu; (go_simp) <;> with_reducible rfl)
  try simp only [Act.put, List.setIfInBounds_toArray, List.set_cons_zero, List.set_cons_succ]
  refine wpAnyH_take (i := 15) (oi := ?o15b) (v := ?v15b) ?h15b (by kernel_rfl) ?f15b ?r15b (fun _ _ _ h => h) (Or.inl ⟨?w15b, ?y15b⟩) (by assumption) ?t15b
  case h15b => simp only [List.getElem?_toArray]; rfl
  case f15b => kernel_rfl
  case r15b => kernel_rfl
  case w15b => rfl
  case y15b => (intro u hu; (go_simp) <;> with_reducible rfl)
  try simp only [Act.put, List.setIfInBounds_toArray, List.set_cons_zero, List.set_cons_succ]
  refine wpAnyH_take (i := 16) (oi := ?o16b) (v := ?v16b) ?h16b (by kernel_rfl) ?f16b ?r16b (fun _ _ _ h => h) (Or.inl ⟨?w16b, ?y16b⟩) (by assumption) ?t16b
  case h16b => simp only [List.getElem?_toArray]; rfl
  case f16b => kernel_rfl
  case r16b => kernel_rfl
  case w16b => rfl
  case y16b => (intro u hu; (go_simp) <;> with_reducible rfl)
  try simp only [Act.put, List.setIfInBounds_toArray, List.set_cons_zero, List.set_cons_succ]
  refine wpAnyH_take (i := 17) (oi := ?o17b) (v := ?v17b) ?h17b (by kernel_rfl) ?f17b ?r17b (fun _ _ _ h => h) (Or.inl ⟨?w17b, ?y17b⟩) (by assumption) ?t17b
  case h17b => simp only [List.getElem?_toArray]; rfl
  case f17b => kernel_rfl
  case r17b => kernel_rfl
  case w17b => rfl
  case y17b => (intro u hu; (go_simp) <;> with_reducible rfl)
  try simp only [Act.put, List.setIfInBounds_toArray, List.set_cons_zero, List.set_cons_succ]
  refine wpAnyH_take (i := 18) (oi := ?o18b) (v := ?v18b) ?h18b (by kernel_rfl) ?f18b ?r18b (fun _ _ _ h => h) (Or.inl ⟨?w18b, ?y18b⟩) (by assumption) ?t18b
  case h18b => simp only [List.getElem?_toArray]; rfl
  case f18b => kernel_rfl
  case r18b => kernel_rfl
  case w18b => rfl
  case y18b => (intro u hu; (go_simp) <;> with_reducible rfl)
  try simp only [Act.put, List.setIfInBounds_toArray, List.set_cons_zero, List.set_cons_succ]
  refine wpAnyH_take (i := 19) (oi := ?o19b) (v := ?v19b) ?h19b (by kernel_rfl) ?f19b ?r19b (fun _ _ _ h => h) (Or.inl ⟨?w19b, ?y19b⟩) (by assumption) ?t19b
  case h19b => simp only [List.getElem?_toArray]; rfl
  case f19b => kernel_rfl
  case r19b => kernel_rfl
  case w19b => rfl
  case y19b => (intro u hu; (go_simp) <;> with_reducible rfl)
  try simp only [Act.put, List.setIfInBounds_toArray, List.set_cons_zero, List.set_cons_succ]
  refine wpAnyH_take (i := 20) (oi := ?o20b) (v := ?v20b) ?h20b (by kernel_rfl) ?f20b ?r20b (fun _ _ _ h => h) (Or.inl ⟨?w20b, ?y20b⟩) (by assumption) ?t20b
  case h20b => simp only [List.getElem?_toArray]; rfl
  case f20b => kernel_rfl
  case r20b => kernel_rfl
  case w20b => rfl
  case y20b => (intro u hu; (go_simp) <;> with_reducible rfl)
  try simp only [Act.put, List.setIfInBounds_toArray, List.set_cons_zero, List.set_cons_succ]
  refine wpAnyH_take (i := 21) (oi := ?o21b) (v := ?v21b) ?h21b (by kernel_rfl) ?f21b ?r21b (fun _ _ _ h => h) (Or.inl ⟨?w21b, ?y21b⟩) (by assumption) ?t21b
  case h21b => simp only [List.getElem?_toArray]; rfl
  case f21b => kernel_rfl
  case r21b => kernel_rfl
  case w21b => rfl
  case y21b => (intro u hu; (go_simp) <;> with_reducible rfl)
  try simp only [Act.put, List.setIfInBounds_toArray, List.set_cons_zero, List.set_cons_succ]
  refine wpAnyH_take (i := 22) (oi := ?o22b) (v := .agg (List.map (Value.int .u8) key).toArray) ?h22b (by kernel_rfl) ?f22b ?r22b (fun _ _ _ h => h) ?y22b (by assumption) ?t22b
  case h22b => simp only [List.getElem?_toArray]; rfl
  case f22b => kernel_rfl
  case r22b => kernel_rfl
  case y22b => exact yieldsIf_load_mid (by rfl) 22 (.tmp 7) rfl w.heap.size 0 rfl (List.map (Value.int .u8) key) _ (fun u hu => range_later hu AK.out.rng) Tryd.underlying22 rfl hiK
  try simp only [Act.put, List.setIfInBounds_toArray, List.set_cons_zero, List.set_cons_succ]
  refine wpAnyH_take (i := 23) (oi := ?o23b) (v := ?v23b) ?h23b (by kernel_rfl) ?f23b ?r23b (fun _ _ _ h => h) (Or.inl ⟨?w23b, ?y23b⟩) (by assumption) ?t23b
  case h23b => simp only [List.getElem?_toArray]; rfl
  case f23b => kernel_rfl
  case r23b => kernel_rfl
  case w23b => rfl
  case y23b => (intro u hu; (go_simp) <;> with_reducible rfl)
  try simp only [Act.put, List.setIfInBounds_toArray, List.set_cons_zero, List.set_cons_succ]
  refine wpAnyH_take (i := 24) (oi := ?o24b) (v := .agg (List.map (Value.int .u8) nonce).toArray) ?h24b (by kernel_rfl) ?f24b ?r24b (fun _ _ _ h => h) ?y24b (by assumption) ?t24b
  case h24b => simp only [List.getElem?_toArray]; rfl
  case f24b => kernel_rfl
  case r24b => kernel_rfl
  case y24b => exact yieldsIf_load_mid (by rfl) 24 (.tmp 9) rfl q1 0 rfl (List.map (Value.int .u8) nonce) _ (fun u hu => range_later hu AN.out.rng) Tryd.underlying24 rfl hiN
  try simp only [Act.put, List.setIfInBounds_toArray, List.set_cons_zero, List.set_cons_succ]
  refine wpAnyH_take (i := 26) (oi := ?o26b) (v := .agg (List.map (Value.int .u8) key).toArray) ?h26b (by kernel_rfl) ?f26b ?r26b (fun _ _ _ h => h) ?y26b (by assumption) ?t26b
  case h26b => simp only [List.getElem?_toArray]; rfl
  case f26b => kernel_rfl
  case r26b => kernel_rfl
  case y26b => exact yieldsIf_load_mid (by rfl) 22 (.tmp 7) rfl w.heap.size 0 rfl (List.map (Value.int .u8) key) _ (fun u hu => range_later hu AK.out.rng) Tryd.underlying22 rfl hiK
  try simp only [Act.put, List.setIfInBounds_toArray, List.set_cons_zero, List.set_cons_succ]
  refine wpAnyH_take (i := 27) (oi := ?o27b) (v := ?v27b) ?h27b (by kernel_rfl) ?f27b ?r27b (fun _ _ _ h => h) (Or.inl ⟨?w27b, ?y27b⟩) (by assumption) ?t27b
  case h27b => simp only [List.getElem?_toArray]; rfl
  case f27b => kernel_rfl
  case r27b => kernel_rfl
  case w27b => rfl
  case y27b => (intro u hu; (go_simp) <;> with_reducible rfl)
  try simp only [Act.put, List.setIfInBounds_toArray, List.set_cons_zero, List.set_cons_succ]
  refine wpAnyH_take (i := 28) (oi := ?o28b) (v := .agg (List.map (Value.int .u8) nonce).toArray) ?h28b (by kernel_rfl) ?f28b ?r28b (fun _ _ _ h => h) ?y28b (by assumption) ?t28b
  case h28b => simp only [List.getElem?_toArray]; rfl
  case f28b => kernel_rfl
  case r28b => kernel_rfl
  case y28b => exact yieldsIf_load_mid (by rfl) 24 (.tmp 9) rfl q1 0 rfl (List.map (Value.int .u8) nonce) _ (fun u hu => range_later hu AN.out.rng) Tryd.underlying24 rfl hiN
  try simp only [Act.put, List.setIfInBounds_toArray, List.set_cons_zero, List.set_cons_succ]
  refine wpAnyH_ready (rs := [25]) (by kernel_rfl) (by simp) ?_
  refine AllReadyH.cons (o := ?o25b) ?h25b (fun K hK => ?_) AllReadyH.nil
  case h25b => simp only [List.getElem?_toArray]; rfl
  go_simp
  refine (block_c key count nonce HK.out HWC.out HN.out _).mono ?_
  rintro e V4 ⟨B, rfl, HX, hX, hbl⟩
  refine hK.out _ _ (hH.trans hbl) (fun hH' => ?_)
  clear hK K hH
  have hH := hH'
  clear hH'
  try simp only [List.setIfInBounds_toArray, List.set]
  clear hbl
  refine wpAnyH_ready (rs := [29]) (by kernel_rfl) (by simp) ?_
  refine AllReadyH.cons (o := ?o29b) ?h29b (fun K hK => ?_) AllReadyH.nil
  case h29b => simp only [List.getElem?_toArray]; rfl
  go_simp
  refine (rblock_c key count nonce HK.out HWC.out HN.out _ (HG.out.later hH)).mono ?_
  rintro e V5 ⟨B2, rfl, HX2, hX2, hbl⟩
  refine hK.out _ _ (hH.trans hbl) (fun hH' => ?_)
  clear hK K hH
  have hH := hH'
  clear hH'
  try simp only [List.setIfInBounds_toArray, List.set]
  have e : B2 = B := HX2.out.trans HX.out.symm
  subst e
  clear HX HX2 hX2 hbl
  have heq := eql_same _ hX
  refine wpAnyH_take (i := 30) (oi := ?o30b) (v := ?v30b) ?h30b (by kernel_rfl) ?f30b ?r30b (fun _ _ _ h => h) (Or.inl ⟨?w30b, ?y30b⟩) (by assumption) ?t30b
  case h30b => simp only [List.getElem?_toArray]; rfl
  case f30b => kernel_rfl
  case r30b => kernel_rfl
  case w30b => rfl
  case y30b => (intro u hu; (go_simp) <;> with_reducible rfl)
  try simp only [Act.put, List.setIfInBounds_toArray, List.set_cons_zero, List.set_cons_succ]
  clear heq hX
  refine wpAnyH_take (i := 31) (oi := ?o31b) (v := ?v31b) ?h31b (by kernel_rfl) ?f31b ?r31b (fun _ _ _ h => h) (Or.inl ⟨?w31b, ?y31b⟩) (by assumption) ?t31b
  case h31b => simp only [List.getElem?_toArray]; rfl
  case f31b => kernel_rfl
  case r31b => kernel_rfl
  case w31b => rfl
  case y31b => (intro u hu; (go_simp) <;> with_reducible rfl)
  try simp only [Act.put, List.setIfInBounds_toArray, List.set_cons_zero, List.set_cons_succ]
  refine wpAnyH_take (i := 32) (oi := ?o32b) (v := ?v32b) ?h32b (by kernel_rfl) ?f32b ?r32b (fun _ _ _ h => h) (Or.inl ⟨?w32b, ?y32b⟩) (by assumption) ?t32b
  case h32b => simp only [List.getElem?_toArray]; rfl
  case f32b => kernel_rfl
  case r32b => kernel_rfl
  case w32b => rfl
  case y32b => (intro u hu; (go_simp) <;> with_reducible rfl)
  try simp only [Act.put, List.setIfInBounds_toArray, List.set_cons_zero, List.set_cons_succ]
  refine wpAnyH_done (by kernel_rfl) ?_ _
  refine NoPanic.normal ?_
  replace HB := HB.out.trans (Below.mono hH HB.out.size)
  clear hH
  go_wp2
  go_ret
  exact ⟨rfl, HB⟩
end Go.Proofs.YtiijnghlllapoaaDoor
