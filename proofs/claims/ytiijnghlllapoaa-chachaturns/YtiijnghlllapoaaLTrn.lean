/-
  ChachaTurns' walk. No statement of the seat is proved here.
-/
import Derived.Test.YtiijnghlllapoaaQOwn
namespace Go.Proofs.Ytiijnghlllapoaa
open Go.RowKit

set_option maxRecDepth 8000 in
set_option maxHeartbeats 4000000 in
theorem chachaTurns_walk (key : List Int) (count : Int) (nonce : List Int) (n ax s : Int) (hk : Bn 32 key) (hc : 0 ≤ count ∧ count < 4294967296) (hn : Bn 12 nonce) (hi : -9223372036854775808 ≤ n ∧ n ≤ 9223372036854775807) (hi2 : -9223372036854775808 ≤ ax ∧ ax ≤ 9223372036854775807) (hs : 0 ≤ s ∧ s ≤ 255) (w : World) :
    Calls Try.prog 5 #[(.agg (List.map (Value.int .u8) key).toArray), .int .u32 count, (.agg (List.map (Value.int .u8) nonce).toArray), .int .i64 n, .int .i64 ax, .int .u8 s] w fun e w' => e = .returned (.bool true) ∧ Below w.heap.size w w' := by
  obtain ⟨i0, hi5, hz0, hz1, hz2⟩ := info_parts info5
  obtain ⟨s0, s1⟩ := hs
  have HK : Hid (Bn 32 key) := hk
  have HN : Hid (Bn 12 nonce) := hn
  have HWC : Hid (W32 count) := hc
  obtain ⟨c0, c1⟩ := hc
  clear hk hn
  obtain ⟨_, _, hiK⟩ := bn32_cells HK.out
  obtain ⟨_, _, hiN⟩ := bn12_cells HN.out
  go_enter Try.func5, Try.ntmps5
  go_upto_region 1 with fail
  have AK : Hid (Ar ((w.alloc (.cells (List.map (Value.int .u8) key).toArray 22)).alloc (.cells (List.map (Value.int .u8) nonce).toArray 26)) w.heap.size 32 (List.map (Value.int .u8) key)) := (ar_box w _ 32 HK.out.map_len _).later (bel1 _ _)
  have AN : Hid (Ar ((w.alloc (.cells (List.map (Value.int .u8) key).toArray 22)).alloc (.cells (List.map (Value.int .u8) nonce).toArray 26)) (w.heap.size + 1) 12 (List.map (Value.int .u8) nonce)) := by have := ar_box (w.alloc (.cells (List.map (Value.int .u8) key).toArray 22)) _ 12 HN.out.map_len 26; simpa [Hid] using this
  have HB : Hid (Below w.heap.size w ((w.alloc (.cells (List.map (Value.int .u8) key).toArray 22)).alloc (.cells (List.map (Value.int .u8) nonce).toArray 26))) := bel2 _ _ _
  generalize (w.alloc (.cells (List.map (Value.int .u8) key).toArray 22)).alloc (.cells (List.map (Value.int .u8) nonce).toArray 26) = W0 at *
  have k1 : w.heap.size < w.heap.size + 1 := by omega
  generalize w.heap.size + 1 = q1 at *
  go_wp2_with fail
  refine (pick_any n 300 hi (by decide) _).mono ?_
  rintro e w' ⟨k', rfl, p0, p1, hw⟩
  rw [hw]
  clear hw w'
  go_wp2_with fail
  obtain ⟨m, hm⟩ : ∃ m : Nat, 1 + k' = (m : Int) := Int.eq_ofNat_of_zero_le (by omega)
  rw [hm]
  have m1 : 1 ≤ m := by omega
  have m2 : m ≤ 300 := by omega
  refine (bytes_c m n (by omega) _).mono ?_
  rintro e V1 ⟨g1, t, rfl, HT0, HT1, hb⟩
  have OT : Hid (Ow V1 g1 m t) := ⟨⟨_, HT1.out⟩, HT0.out⟩
  have hge := (HT1.out.lt g1 (by simp [Value.ownBlock])).1
  have hq := AN.out.lt (by decide)
  clear HT0 HT1 hm p0 p1
  replace AK : Hid (Ar V1 w.heap.size 32 (List.map (Value.int .u8) key)) := AK.out.later hb
  replace AN : Hid (Ar V1 q1 12 (List.map (Value.int .u8) nonce)) := AN.out.later hb
  replace HB : Hid (Below w.heap.size w V1) := HB.out.trans (Below.mono hb HB.out.size)
  clear hb
  go_wp2_with fail
  refine (pick_any ax m hi2 (by omega) _).mono ?_
  rintro e w' ⟨k, rfl, p0, p1, hw⟩
  rw [hw]
  clear hw w'
  obtain ⟨k, rfl⟩ := Int.eq_ofNat_of_zero_le p0
  have hkm : k < m := by omega
  go_wp2_with (first
    | (refine wpList_load_mid rfl 22 (.tmp 6) rfl (w.heap.size) 0 rfl (List.map (Value.int .u8) key) _ AK.out.rng Try.underlying22 rfl hiK ?_)
    | (refine wpList_load_mid rfl 26 (.tmp 8) rfl q1 0 rfl (List.map (Value.int .u8) nonce) _ AN.out.rng Try.underlying26 rfl hiN ?_))
  refine (apply_o key count nonce _ m m t HK.out HWC.out HN.out _ OT.out.rd (by omega)).mono ?_
  rintro e V2 ⟨g2, X, rfl, HX, OX, hg12, hb⟩
  have l1 := OT.out.lt
  replace AK : Hid (Ar V2 w.heap.size 32 (List.map (Value.int .u8) key)) := AK.out.later hb
  replace AN : Hid (Ar V2 q1 12 (List.map (Value.int .u8) nonce)) := AN.out.later hb
  replace HB : Hid (Below w.heap.size w V2) := HB.out.trans (Below.mono hb HB.out.size)
  replace OT : Hid (Ow V2 g1 m t) := OT.out.later hb
  clear hb
  have hne : g1 < g2 := by omega
  obtain ⟨x, cx, fx, hx, x0, x1⟩ := OT.out.cell k hkm
  have hxs := xor8 x s ⟨x0, x1⟩ ⟨s0, s1⟩
  obtain ⟨z, hz⟩ : ∃ z, bits .xor .u8 x s = z := ⟨_, rfl⟩
  rw [hz] at hxs
  go_upto_region 5 with fail
  have HXt : Hid (t[k]? = some x) := hx
  clear cx fx hx
  replace AK : Hid (Ar (V2.setCell ⟨g1, k, none⟩ (.int .u8 z)) w.heap.size 32 (List.map (Value.int .u8) key)) := AK.out.else _ _ (by omega) _
  replace AN : Hid (Ar (V2.setCell ⟨g1, k, none⟩ (.int .u8 z)) q1 12 (List.map (Value.int .u8) nonce)) := AN.out.else _ _ (by omega) _
  replace HB : Hid (Below w.heap.size w (V2.setCell ⟨g1, k, none⟩ (.int .u8 z))) := HB.out.setCell (p := ⟨g1, k, none⟩) (by dsimp only; omega) _
  replace OX : Hid (Ow (V2.setCell ⟨g1, k, none⟩ (.int .u8 z)) g2 m X) := OX.out.else _ _ (by omega) _
  have OT2 : Hid (Ow (V2.setCell ⟨g1, k, none⟩ (.int .u8 z)) g1 m (t.set k z)) := OT.out.set k hxs.1 hxs.2.1
  have HTB : Hid (Byt t) := OT.out.byt
  clear OT
  generalize V2.setCell ⟨g1, k, none⟩ (.int .u8 z) = W3 at *
  go_wp2_with (first
    | (refine wpList_load_mid rfl 22 (.tmp 6) rfl (w.heap.size) 0 rfl (List.map (Value.int .u8) key) _ AK.out.rng Try.underlying22 rfl hiK ?_)
    | (refine wpList_load_mid rfl 26 (.tmp 8) rfl q1 0 rfl (List.map (Value.int .u8) nonce) _ AN.out.rng Try.underlying26 rfl hiN ?_))
  refine (apply_o key count nonce _ m m (t.set k z) HK.out HWC.out HN.out _ OT2.out.rd (by omega)).mono ?_
  rintro e V4 ⟨g3, Y, rfl, HY, OY, hg13, hb⟩
  have l2 := OX.out.lt
  replace AK : Hid (Ar V4 w.heap.size 32 (List.map (Value.int .u8) key)) := AK.out.later hb
  replace AN : Hid (Ar V4 q1 12 (List.map (Value.int .u8) nonce)) := AN.out.later hb
  replace HB : Hid (Below w.heap.size w V4) := HB.out.trans (Below.mono hb HB.out.size)
  replace OX : Hid (Ow V4 g2 m X) := OX.out.later hb
  clear hb OT2
  have hne3 : g2 < g3 := by omega
  go_wp2_with fail
  refine (known4_any _).mono ?_
  rintro e V5 ⟨rfl, hb⟩
  replace AK : Hid (Ar V5 w.heap.size 32 (List.map (Value.int .u8) key)) := AK.out.later hb
  replace AN : Hid (Ar V5 q1 12 (List.map (Value.int .u8) nonce)) := AN.out.later hb
  replace HB : Hid (Below w.heap.size w V5) := HB.out.trans (Below.mono hb HB.out.size)
  replace OX : Hid (Ow V5 g2 m X) := OX.out.later hb
  replace OY : Hid (Ow V5 g3 m Y) := OY.out.later hb
  clear hb
  obtain ⟨y, cy, fy, hy, y0, y1⟩ := OX.out.cell k hkm
  have hys := xor8 y s ⟨y0, y1⟩ ⟨s0, s1⟩
  have HE : Hid (X.set k (bits .xor .u8 y s) = Y) := by
    unfold Hid
    rw [HY.out, HX.out, ← hz, ap_turn key count nonce HTB.out k HXt.out ⟨s0, s1⟩ (by rw [← HX.out]; exact hy)]
  clear hy
  obtain ⟨z2, hz2'⟩ : ∃ z, bits .xor .u8 y s = z := ⟨_, rfl⟩
  rw [hz2'] at hys HE
  have gkm : (k : Int) < m := by omega
  go_upto_region 9 with fail
  clear cy fy hz hz2' hxs
  have OX2 : Hid (Ow (V5.setCell ⟨g2, k, none⟩ (.int .u8 z2)) g2 m Y) := by unfold Hid; rw [← HE.out]; exact OX.out.set k hys.1 hys.2.1
  replace OY : Hid (Ow (V5.setCell ⟨g2, k, none⟩ (.int .u8 z2)) g3 m Y) := OY.out.else _ _ (by omega) _
  replace HB : Hid (Below w.heap.size w (V5.setCell ⟨g2, k, none⟩ (.int .u8 z2))) := HB.out.setCell (p := ⟨g2, k, none⟩) (by dsimp only; omega) _
  clear OX AK AN
  generalize V5.setCell ⟨g2, k, none⟩ (.int .u8 z2) = W6 at *
  have HZ : Hid (xorL Y Y = List.replicate m 0) := by unfold Hid; rw [xorL_self OY.out.byt, OY.out.len]
  have sx : ∀ u, Ext W6 u → (convert 28 9 (.slice (some ⟨g2, 0, none⟩) m m)).run Try.prog u = .ok (.string (strOfNums Y)) u := fun u hu => str_of (OX2.out.rd.below hu)
  have sy : ∀ u, Ext W6 u → (convert 28 9 (.slice (some ⟨g3, 0, none⟩) m m)).run Try.prog u = .ok (.string (strOfNums Y)) u := fun u hu => str_of (OY.out.rd.below hu)
  refine wp_region_noPanic ?_
  refine wp_region_held_drew (S := Ext W6) (by kernel_rfl) (Ext.refl _).drew (fun hH => ?_)
  change wpAnyH _ _ _ _ _ _ #[false, false, false, false, false, false, false, false, false, false, false, false, false, false, false, false, false] _ _
  refine wpAnyH_take (i := 0) (oi := ?o0t) (v := ?v0t) ?h0t (by kernel_rfl) ?f0t ?r0t (fun _ _ _ h => h) (Or.inl ⟨?w0t, ?y0t⟩) (by assumption) ?t0t
  case h0t => simp only [List.getElem?_toArray]; rfl
  case f0t => kernel_rfl
  case r0t => kernel_rfl
  case w0t => rfl
  case y0t => (intro u hu; (go_simp) <;> with_reducible rfl)
  try simp only [Act.put, List.setIfInBounds_toArray, List.set_cons_zero, List.set_cons_succ]
  refine wpAnyH_take (i := 1) (oi := ?o1t) (v := ?v1t) ?h1t (by kernel_rfl) ?f1t ?r1t (fun _ _ _ h => h) (Or.inl ⟨?w1t, ?y1t⟩) (by assumption) ?t1t
  case h1t => simp only [List.getElem?_toArray]; rfl
  case f1t => kernel_rfl
  case r1t => kernel_rfl
  case w1t => rfl
  case y1t => (intro u hu; (have hsx := sx u hu; go_simp) <;> with_reducible rfl)
  try simp only [Act.put, List.setIfInBounds_toArray, List.set_cons_zero, List.set_cons_succ]
  refine wpAnyH_take (i := 2) (oi := ?o2t) (v := ?v2t) ?h2t (by kernel_rfl) ?f2t ?r2t (fun _ _ _ h => h) (Or.inl ⟨?w2t, ?y2t⟩) (by assumption) ?t2t
  case h2t => simp only [List.getElem?_toArray]; rfl
  case f2t => kernel_rfl
  case r2t => kernel_rfl
  case w2t => rfl
  case y2t => (intro u hu; (go_simp) <;> with_reducible rfl)
  try simp only [Act.put, List.setIfInBounds_toArray, List.set_cons_zero, List.set_cons_succ]
  refine wpAnyH_take (i := 3) (oi := ?o3t) (v := ?v3t) ?h3t (by kernel_rfl) ?f3t ?r3t (fun _ _ _ h => h) (Or.inl ⟨?w3t, ?y3t⟩) (by assumption) ?t3t
  case h3t => simp only [List.getElem?_toArray]; rfl
  case f3t => kernel_rfl
  case r3t => kernel_rfl
  case w3t => rfl
  case y3t => (intro u hu; (have hsy := sy u hu; go_simp) <;> with_reducible rfl)
  try simp only [Act.put, List.setIfInBounds_toArray, List.set_cons_zero, List.set_cons_succ]
  refine wpAnyH_take (i := 4) (oi := ?o4t) (v := ?v4t) ?h4t (by kernel_rfl) ?f4t ?r4t (fun _ _ _ h => h) (Or.inl ⟨?w4t, ?y4t⟩) (by assumption) ?t4t
  case h4t => simp only [List.getElem?_toArray]; rfl
  case f4t => kernel_rfl
  case r4t => kernel_rfl
  case w4t => rfl
  case y4t => (intro u hu; (go_simp) <;> with_reducible rfl)
  try simp only [Act.put, List.setIfInBounds_toArray, List.set_cons_zero, List.set_cons_succ]
  refine wpAnyH_take (i := 5) (oi := ?o5t) (v := ?v5t) ?h5t (by kernel_rfl) ?f5t ?r5t (fun _ _ _ h => h) (Or.inl ⟨?w5t, ?y5t⟩) (by assumption) ?t5t
  case h5t => simp only [List.getElem?_toArray]; rfl
  case f5t => kernel_rfl
  case r5t => kernel_rfl
  case w5t => rfl
  case y5t => (intro u hu; (go_simp) <;> with_reducible rfl)
  try simp only [Act.put, List.setIfInBounds_toArray, List.set_cons_zero, List.set_cons_succ]
  refine wpAnyH_take (i := 6) (oi := ?o6t) (v := ?v6t) ?h6t (by kernel_rfl) ?f6t ?r6t (fun _ _ _ h => h) (Or.inl ⟨?w6t, ?y6t⟩) (by assumption) ?t6t
  case h6t => simp only [List.getElem?_toArray]; rfl
  case f6t => kernel_rfl
  case r6t => kernel_rfl
  case w6t => rfl
  case y6t => (intro u hu; (go_simp) <;> with_reducible rfl)
  try simp only [Act.put, List.setIfInBounds_toArray, List.set_cons_zero, List.set_cons_succ]
  refine wpAnyH_take (i := 7) (oi := ?o7t) (v := ?v7t) ?h7t (by kernel_rfl) ?f7t ?r7t (fun _ _ _ h => h) (Or.inl ⟨?w7t, ?y7t⟩) (by assumption) ?t7t
  case h7t => simp only [List.getElem?_toArray]; rfl
  case f7t => kernel_rfl
  case r7t => kernel_rfl
  case w7t => rfl
  case y7t => (intro u hu; (go_simp) <;> with_reducible rfl)
  try simp only [Act.put, List.setIfInBounds_toArray, List.set_cons_zero, List.set_cons_succ]
  refine wpAnyH_take (i := 10) (oi := ?o10t) (v := ?v10t) ?h10t (by kernel_rfl) ?f10t ?r10t (fun _ _ _ h => h) (Or.inl ⟨?w10t, ?y10t⟩) (by assumption) ?t10t
  case h10t => simp only [List.getElem?_toArray]; rfl
  case f10t => kernel_rfl
  case r10t => kernel_rfl
  case w10t => rfl
  case y10t => (intro u hu; (go_simp) <;> with_reducible rfl)
  try simp only [Act.put, List.setIfInBounds_toArray, List.set_cons_zero, List.set_cons_succ]
  refine wpAnyH_take (i := 11) (oi := ?o11t) (v := ?v11t) ?h11t (by kernel_rfl) ?f11t ?r11t (fun _ _ _ h => h) (Or.inl ⟨?w11t, ?y11t⟩) (by assumption) ?t11t
  case h11t => simp only [List.getElem?_toArray]; rfl
  case f11t => kernel_rfl
  case r11t => kernel_rfl
  case w11t => rfl
  case y11t => (intro u hu; (go_simp) <;> with_reducible rfl)
  try simp only [Act.put, List.setIfInBounds_toArray, List.set_cons_zero, List.set_cons_succ]
  clear sx sy
  refine wpAnyH_ready (rs := [8, 12]) (by kernel_rfl) (by simp) ?_
  refine AllReadyH.cons (o := ?o8t) ?h8t (fun K hK => ?_) (AllReadyH.cons (o := ?o12t) ?h12t (fun K hK => ?_) AllReadyH.nil)
  case h8t => simp only [List.getElem?_toArray]; rfl
  case h12t => simp only [List.getElem?_toArray]; rfl
  · go_simp
    have HH : Hid (Ext W6 W6.drew) := (Ext.refl _).drew
    refine (refxor_g _ m m Y _ m m Y _ (OX2.out.rd.below HH.out) (OY.out.rd.below HH.out) (by omega) (by omega)).mono ?_
    rintro e V7 ⟨a', m', c', rfl, hr7, hb⟩
    rw [HZ.out] at hr7
    refine hK.out _ _ (Ext.trans hH hb) (fun hH' => ?_)
    clear hK K hH
    have hH := hH'
    clear hH'
    try simp only [List.setIfInBounds_toArray, List.set]
    refine wpAnyH_mono (S' := Ext V7) (fun u hu => Ext.trans hH hu) ?_
    replace HH : Hid (Ext W6 V7) := Ext.trans HH.out hb
    clear hH
    have hH := Ext.refl V7
    clear hb
    have sz : ∀ u, Ext V7 u → (convert 28 9 (.slice a' m' c')).run Try.prog u = .ok (.string (strOfNums (List.replicate m 0))) u := fun u hu => str_of (hr7.below hu)
    refine wpAnyH_take (i := 9) (oi := ?o9ta) (v := ?v9ta) ?h9ta (by kernel_rfl) ?f9ta ?r9ta (fun _ _ _ h => h) (Or.inl ⟨?w9ta, ?y9ta⟩) (by assumption) ?t9ta
    case h9ta => simp only [List.getElem?_toArray]; rfl
    case f9ta => kernel_rfl
    case r9ta => kernel_rfl
    case w9ta => rfl
    case y9ta => (intro u hu; (have hsz := sz u hu; go_simp) <;> with_reducible rfl)
    try simp only [Act.put, List.setIfInBounds_toArray, List.set_cons_zero, List.set_cons_succ]
    clear sz hr7
    refine wpAnyH_ready (rs := [12]) (by kernel_rfl) (by simp) ?_
    refine AllReadyH.cons (o := ?o12ta) ?h12ta (fun K hK => ?_) AllReadyH.nil
    case h12ta => simp only [List.getElem?_toArray]; rfl
    obtain ⟨V8, hrun, ho, hg⟩ := run_make_full (P := Try.prog) V7 V7.heap.size 28 5 i0 (.int .u8 0) 1 Try.underlying28 hi5 hz0 hz1 .i64 .i64 m (by rw [hz2]; omega) (by unfold maxLen; omega) (Nat.le_refl _)
    rw [made_zero] at ho
    have hb : Below (V7).heap.size (V7) V8 := (Below.refl _ _).grown hg (Nat.le_refl _) (fun k h => by cases h)
    clear hg
    refine step_make_run rfl (.tmp 80) (.tmp 80) 28 rfl _ _ rfl rfl _ _ hrun ?_
    refine hK.out _ _ (Ext.trans hH hb) (fun hH' => ?_)
    clear hK K hH
    have hH := hH'
    clear hH'
    try simp only [List.setIfInBounds_toArray, List.set]
    clear hrun
    refine wpAnyH_mono (S' := Ext V8) (fun u hu => Ext.trans hH hu) ?_
    replace HH : Hid (Ext W6 V8) := Ext.trans HH.out hb
    clear hH
    have hH := Ext.refl V8
    clear hb
    have sm : ∀ u, Ext V8 u → (convert 28 9 (.slice (some ⟨V7.heap.size, 0, none⟩) m m)).run Try.prog u = .ok (.string (strOfNums (List.replicate m 0))) u := fun u hu => str_of ((Rd.owns (byt_zero m) ho).below hu)
    refine wpAnyH_take (i := 13) (oi := ?o13ta) (v := ?v13ta) ?h13ta (by kernel_rfl) ?f13ta ?r13ta (fun _ _ _ h => h) (Or.inl ⟨?w13ta, ?y13ta⟩) (by assumption) ?t13ta
    case h13ta => simp only [List.getElem?_toArray]; rfl
    case f13ta => kernel_rfl
    case r13ta => kernel_rfl
    case w13ta => rfl
    case y13ta => (intro u hu; (have hsm := sm u hu; go_simp) <;> with_reducible rfl)
    try simp only [Act.put, List.setIfInBounds_toArray, List.set_cons_zero, List.set_cons_succ]
    clear sm ho
    refine wpAnyH_take (i := 14) (oi := ?o14ta) (v := ?v14ta) ?h14ta (by kernel_rfl) ?f14ta ?r14ta (fun _ _ _ h => h) (Or.inl ⟨?w14ta, ?y14ta⟩) (by assumption) ?t14ta
    case h14ta => simp only [List.getElem?_toArray]; rfl
    case f14ta => kernel_rfl
    case r14ta => kernel_rfl
    case w14ta => rfl
    case y14ta => (intro u hu; (go_simp) <;> with_reducible rfl)
    try simp only [Act.put, List.setIfInBounds_toArray, List.set_cons_zero, List.set_cons_succ]
    refine wpAnyH_take (i := 15) (oi := ?o15ta) (v := ?v15ta) ?h15ta (by kernel_rfl) ?f15ta ?r15ta (fun _ _ _ h => h) (Or.inl ⟨?w15ta, ?y15ta⟩) (by assumption) ?t15ta
    case h15ta => simp only [List.getElem?_toArray]; rfl
    case f15ta => kernel_rfl
    case r15ta => kernel_rfl
    case w15ta => rfl
    case y15ta => (intro u hu; (go_simp) <;> with_reducible rfl)
    try simp only [Act.put, List.setIfInBounds_toArray, List.set_cons_zero, List.set_cons_succ]
    refine wpAnyH_take (i := 16) (oi := ?o16ta) (v := ?v16ta) ?h16ta (by kernel_rfl) ?f16ta ?r16ta (fun _ _ _ h => h) (Or.inl ⟨?w16ta, ?y16ta⟩) (by assumption) ?t16ta
    case h16ta => simp only [List.getElem?_toArray]; rfl
    case f16ta => kernel_rfl
    case r16ta => kernel_rfl
    case w16ta => rfl
    case y16ta => (intro u hu; (go_simp) <;> with_reducible rfl)
    try simp only [Act.put, List.setIfInBounds_toArray, List.set_cons_zero, List.set_cons_succ]
    refine wpAnyH_done (by kernel_rfl) ?_ _
    refine NoPanic.normal ?_
    replace HB := HB.out.trans (Below.mono HH.out HB.out.size)
    clear hH HH
    go_wp2
    go_ret
    exact ⟨rfl, HB⟩
  · have HH : Hid (Ext W6 W6.drew) := (Ext.refl _).drew
    obtain ⟨V7, hrun, ho, hg⟩ := run_make_full (P := Try.prog) W6.drew W6.drew.heap.size 28 5 i0 (.int .u8 0) 1 Try.underlying28 hi5 hz0 hz1 .i64 .i64 m (by rw [hz2]; omega) (by unfold maxLen; omega) (Nat.le_refl _)
    rw [made_zero] at ho
    have hb : Below (W6.drew).heap.size (W6.drew) V7 := (Below.refl _ _).grown hg (Nat.le_refl _) (fun k h => by cases h)
    clear hg
    refine step_make_run rfl (.tmp 80) (.tmp 80) 28 rfl _ _ rfl rfl _ _ hrun ?_
    refine hK.out _ _ (Ext.trans hH hb) (fun hH' => ?_)
    clear hK K hH
    have hH := hH'
    clear hH'
    try simp only [List.setIfInBounds_toArray, List.set]
    clear hrun
    refine wpAnyH_mono (S' := Ext V7) (fun u hu => Ext.trans hH hu) ?_
    replace HH : Hid (Ext W6 V7) := Ext.trans HH.out hb
    clear hH
    have hH := Ext.refl V7
    clear hb
    have sm : ∀ u, Ext V7 u → (convert 28 9 (.slice (some ⟨W6.heap.size, 0, none⟩) m m)).run Try.prog u = .ok (.string (strOfNums (List.replicate m 0))) u := fun u hu => str_of ((Rd.owns (byt_zero m) ho).below hu)
    refine wpAnyH_take (i := 13) (oi := ?o13tb) (v := ?v13tb) ?h13tb (by kernel_rfl) ?f13tb ?r13tb (fun _ _ _ h => h) (Or.inl ⟨?w13tb, ?y13tb⟩) (by assumption) ?t13tb
    case h13tb => simp only [List.getElem?_toArray]; rfl
    case f13tb => kernel_rfl
    case r13tb => kernel_rfl
    case w13tb => rfl
    case y13tb => (intro u hu; (have hsm := sm u hu; go_simp) <;> with_reducible rfl)
    try simp only [Act.put, List.setIfInBounds_toArray, List.set_cons_zero, List.set_cons_succ]
    clear sm ho
    refine wpAnyH_ready (rs := [8]) (by kernel_rfl) (by simp) ?_
    refine AllReadyH.cons (o := ?o8tb) ?h8tb (fun K hK => ?_) AllReadyH.nil
    case h8tb => simp only [List.getElem?_toArray]; rfl
    go_simp
    refine (refxor_g _ m m Y _ m m Y _ (OX2.out.rd.below HH.out) (OY.out.rd.below HH.out) (by omega) (by omega)).mono ?_
    rintro e V8 ⟨a', m', c', rfl, hr7, hb⟩
    rw [HZ.out] at hr7
    refine hK.out _ _ (Ext.trans hH hb) (fun hH' => ?_)
    clear hK K hH
    have hH := hH'
    clear hH'
    try simp only [List.setIfInBounds_toArray, List.set]
    refine wpAnyH_mono (S' := Ext V8) (fun u hu => Ext.trans hH hu) ?_
    replace HH : Hid (Ext W6 V8) := Ext.trans HH.out hb
    clear hH
    have hH := Ext.refl V8
    clear hb
    have sz : ∀ u, Ext V8 u → (convert 28 9 (.slice a' m' c')).run Try.prog u = .ok (.string (strOfNums (List.replicate m 0))) u := fun u hu => str_of (hr7.below hu)
    refine wpAnyH_take (i := 9) (oi := ?o9tb) (v := ?v9tb) ?h9tb (by kernel_rfl) ?f9tb ?r9tb (fun _ _ _ h => h) (Or.inl ⟨?w9tb, ?y9tb⟩) (by assumption) ?t9tb
    case h9tb => simp only [List.getElem?_toArray]; rfl
    case f9tb => kernel_rfl
    case r9tb => kernel_rfl
    case w9tb => rfl
    case y9tb => (intro u hu; (have hsz := sz u hu; go_simp) <;> with_reducible rfl)
    try simp only [Act.put, List.setIfInBounds_toArray, List.set_cons_zero, List.set_cons_succ]
    clear sz hr7
    refine wpAnyH_take (i := 14) (oi := ?o14tb) (v := ?v14tb) ?h14tb (by kernel_rfl) ?f14tb ?r14tb (fun _ _ _ h => h) (Or.inl ⟨?w14tb, ?y14tb⟩) (by assumption) ?t14tb
    case h14tb => simp only [List.getElem?_toArray]; rfl
    case f14tb => kernel_rfl
    case r14tb => kernel_rfl
    case w14tb => rfl
    case y14tb => (intro u hu; (go_simp) <;> with_reducible rfl)
    try simp only [Act.put, List.setIfInBounds_toArray, List.set_cons_zero, List.set_cons_succ]
    refine wpAnyH_take (i := 15) (oi := ?o15tb) (v := ?v15tb) ?h15tb (by kernel_rfl) ?f15tb ?r15tb (fun _ _ _ h => h) (Or.inl ⟨?w15tb, ?y15tb⟩) (by assumption) ?t15tb
    case h15tb => simp only [List.getElem?_toArray]; rfl
    case f15tb => kernel_rfl
    case r15tb => kernel_rfl
    case w15tb => rfl
    case y15tb => (intro u hu; (go_simp) <;> with_reducible rfl)
    try simp only [Act.put, List.setIfInBounds_toArray, List.set_cons_zero, List.set_cons_succ]
    refine wpAnyH_take (i := 16) (oi := ?o16tb) (v := ?v16tb) ?h16tb (by kernel_rfl) ?f16tb ?r16tb (fun _ _ _ h => h) (Or.inl ⟨?w16tb, ?y16tb⟩) (by assumption) ?t16tb
    case h16tb => simp only [List.getElem?_toArray]; rfl
    case f16tb => kernel_rfl
    case r16tb => kernel_rfl
    case w16tb => rfl
    case y16tb => (intro u hu; (go_simp) <;> with_reducible rfl)
    try simp only [Act.put, List.setIfInBounds_toArray, List.set_cons_zero, List.set_cons_succ]
    refine wpAnyH_done (by kernel_rfl) ?_ _
    refine NoPanic.normal ?_
    replace HB := HB.out.trans (Below.mono HH.out HB.out.size)
    clear hH HH
    go_wp2
    go_ret
    exact ⟨rfl, HB⟩
end Go.Proofs.Ytiijnghlllapoaa
