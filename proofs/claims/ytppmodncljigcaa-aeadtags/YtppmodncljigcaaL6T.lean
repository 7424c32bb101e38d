/-
  AeadTags' walk. No statement of the seat is proved here.
-/
import Derived.Test.YtppmodncljigcaaA6K
namespace Go.Proofs.Ytppmodncljigcaa
open Go.RowKit

theorem xor8_ne (v s : Int) (hv : 0 ≤ v ∧ v ≤ 255) (hs : 1 ≤ s ∧ s ≤ 255) : v ≠ bits .xor .u8 v s := by
  intro h
  rw [u8_xor v s (by omega) (by omega) (by omega) (by omega)] at h
  have h1 : v.toNat ^^^ s.toNat = v.toNat := by omega
  have h2 : v.toNat ^^^ (v.toNat ^^^ s.toNat) = s.toNat := by rw [← Nat.xor_assoc, Nat.xor_self, Nat.zero_xor]
  rw [h1, Nat.xor_self] at h2
  omega
set_option maxRecDepth 8000 in
set_option maxHeartbeats 4000000 in
theorem aeadTags_walk (key nonce : List Int) (aa : Option Addr) (la ca : Nat) (ad : List Int) (at' : Option Addr) (lt ct : Nat) (text : List Int) (at1 bt : Int) (hk : Bn 32 key) (hn : Bn 12 nonce) (ha : la ≤ 140737488351232) (hm : lt ≤ 140737488351232) (hi : -9223372036854775808 ≤ at1 ∧ at1 ≤ 9223372036854775807) (hi2 : -9223372036854775808 ≤ bt ∧ bt ≤ 9223372036854775807) (w : World) (hra : Rd w aa la ca ad) (hrt : Rd w at' lt ct text) :
    Calls Try.prog 5 #[(.agg (List.map (Value.int .u8) key).toArray), (.agg (List.map (Value.int .u8) nonce).toArray), .slice aa la ca, .slice at' lt ct, .int .i64 at1, .int .i64 bt] w fun e w' => e = .returned (.bool true) ∧ Below w.heap.size w w' := by
  have HRA : Hid (Rd w aa la ca ad) := hra
  have HRT : Hid (Rd w at' lt ct text) := hrt
  have HLT : Hid (text.length = lt) := hrt.hlen
  have HBT : Hid (Byt text) := hrt.byt
  clear hra hrt
  have HK : Hid (Bn 32 key) := hk
  have HN : Hid (Bn 12 nonce) := hn
  clear hk hn
  obtain ⟨_, _, hiK⟩ := bn32_cells HK.out
  obtain ⟨_, _, hiN⟩ := bn12_cells HN.out
  go_enter Try.func5, Try.ntmps5
  go_upto_region 1 with fail
  have AK : Hid (Ar ((w.alloc (.cells (List.map (Value.int .u8) key).toArray 22)).alloc (.cells (List.map (Value.int .u8) nonce).toArray 25)) w.heap.size 32 (List.map (Value.int .u8) key)) := (ar_box w _ 32 HK.out.map_len _).later (bel1 _ _)
  have AN : Hid (Ar ((w.alloc (.cells (List.map (Value.int .u8) key).toArray 22)).alloc (.cells (List.map (Value.int .u8) nonce).toArray 25)) (w.heap.size + 1) 12 (List.map (Value.int .u8) nonce)) := by have := (ar_box (w.alloc (.cells (List.map (Value.int .u8) key).toArray 22)) _ 12 HN.out.map_len 25); simpa [Hid] using this
  have HB : Hid (Below w.heap.size w ((w.alloc (.cells (List.map (Value.int .u8) key).toArray 22)).alloc (.cells (List.map (Value.int .u8) nonce).toArray 25))) := bel2 _ _ _
  generalize ((w.alloc (.cells (List.map (Value.int .u8) key).toArray 22)).alloc (.cells (List.map (Value.int .u8) nonce).toArray 25)) = W0 at *
  have k1 : w.heap.size < w.heap.size + 1 := by omega
  generalize hq1 : w.heap.size + 1 = q1 at *
  replace HRA : Hid (Rd W0 aa la ca ad) := HRA.out.below HB.out
  replace HRT : Hid (Rd W0 at' lt ct text) := HRT.out.below HB.out
  go_wp2_with (first
  | (refine wpList_load_mid rfl 22 (.tmp 6) rfl w.heap.size 0 rfl (List.map (Value.int .u8) key) _ AK.out.rng Try.underlying22 rfl hiK ?_)
  | (refine wpList_load_mid rfl 25 (.tmp 7) rfl q1 0 rfl (List.map (Value.int .u8) nonce) _ AN.out.rng Try.underlying25 rfl hiN ?_))
  refine (seal_c key nonce aa la ca ad at' lt ct text HK.out HN.out _ HRA.out HRT.out ha hm).mono ?_
  rintro e V ⟨gB, mB, XB, rfl, HmB, HXB, OB, hgB, hb⟩
  have HE0 : Hid (Ext W0 V) := hb
  clear HRT hb
  have hmb : mB ≤ 140737488351248 := by rw [HmB.out]; omega
  go_wp2_with fail
  refine (known6_any _).mono ?_
  rintro e V1 ⟨rfl, hb⟩
  replace OB : Hid (Ow V1 gB mB XB) := OB.out.later hb
  replace HE0 : Hid (Ext W0 V1) := HE0.out.trans hb
  clear hb
  have hwl : (lt : Int) + 16 = (mB : Int) := by rw [HmB.out]; omega
  go_wp2_with fail
  refine (pick_any at1 16 hi (by decide) _).mono ?_
  rintro e w' ⟨i0, rfl, p0, p1, hw⟩
  rw [hw]
  clear hw w' hwl
  obtain ⟨i, rfl⟩ := Int.eq_ofNat_of_zero_le p0
  have hi16 : i < 16 := by omega
  obtain ⟨j, hj⟩ : ∃ j : Nat, j = lt + i := ⟨_, rfl⟩
  have hj1 : (lt : Int) + (i : Int) = (j : Int) := by omega
  have hjm : j < mB := by rw [HmB.out]; omega
  have hjm1 : (j : Int) < (mB : Int) := by omega
  have HJ : Hid (j = lt + i) := hj
  clear hj
  have hjn : (j : Int).toNat = j := by omega
  obtain ⟨v, cv0, fv0, hv, v0, v1⟩ := OB.out.cell j hjm
  have HV : Hid (XB[j]? = some v) := hv
  clear hv
  go_upto_region 5 with fail
  clear hj1
  go_cut [] from 37 (fun wx => ∃ (X : List Int) (s : Int), Hid (1 ≤ s ∧ s ≤ 255) ∧ Hid (X = XB.set j (bits .xor .u8 v s)) ∧ Hid (Ow wx gB mB X) ∧ Hid (Ext W0 wx))
  case first =>
    refine wp_region_noPanic ?_
    refine wp_region_held_drew (S := ExtB gB V1) (by kernel_rfl) (ExtB.refl _ _).drew (fun hH => ?_)
    change wpAnyH _ _ _ _ _ _ #[false, false, false, false, false, false, false, false, false, false, false, false, false] _ _
    refine wpAnyH_take (i := 0) (oi := ?o0t1) (v := ?v0t1) ?h0t1 (by kernel_rfl) ?f0t1 ?r0t1 (fun _ _ _ h => h) (Or.inl ⟨?w0t1, ?y0t1⟩) (by assumption) ?t0t1
    case h0t1 => simp only [List.getElem?_toArray]; rfl
    case f0t1 => kernel_rfl
    case r0t1 => kernel_rfl
    case w0t1 => rfl
    case y0t1 => (intro u hu; (go_simp) <;> with_reducible rfl)
    try simp only [Act.put, List.setIfInBounds_toArray, List.set_cons_zero, List.set_cons_succ]
    refine wpAnyH_take (i := 1) (oi := ?o1t1) (v := ?v1t1) ?h1t1 (by kernel_rfl) ?f1t1 ?r1t1 (fun _ _ _ h => h) (Or.inl ⟨?w1t1, ?y1t1⟩) (by assumption) ?t1t1
    case h1t1 => simp only [List.getElem?_toArray]; rfl
    case f1t1 => kernel_rfl
    case r1t1 => kernel_rfl
    case w1t1 => rfl
    case y1t1 => (intro u hu; (go_simp) <;> with_reducible rfl)
    try simp only [Act.put, List.setIfInBounds_toArray, List.set_cons_zero, List.set_cons_succ]
    refine wpAnyH_take (i := 2) (oi := ?o2t1) (v := ?v2t1) ?h2t1 (by kernel_rfl) ?f2t1 ?r2t1 (fun _ _ _ h => h) (Or.inl ⟨?w2t1, ?y2t1⟩) (by assumption) ?t2t1
    case h2t1 => simp only [List.getElem?_toArray]; rfl
    case f2t1 => kernel_rfl
    case r2t1 => kernel_rfl
    case w2t1 => rfl
    case y2t1 => (intro u hu; (go_simp) <;> with_reducible rfl)
    try simp only [Act.put, List.setIfInBounds_toArray, List.set_cons_zero, List.set_cons_succ]
    refine wpAnyH_take (i := 3) (oi := ?o3t1) (v := ?v3t1) ?h3t1 (by kernel_rfl) ?f3t1 ?r3t1 (fun _ _ _ h => h) (Or.inl ⟨?w3t1, ?y3t1⟩) (by assumption) ?t3t1
    case h3t1 => simp only [List.getElem?_toArray]; rfl
    case f3t1 => kernel_rfl
    case r3t1 => kernel_rfl
    case w3t1 => rfl
    case y3t1 => (intro u hu; (go_simp) <;> with_reducible rfl)
    try simp only [Act.put, List.setIfInBounds_toArray, List.set_cons_zero, List.set_cons_succ]
    refine wpAnyH_take (i := 4) (oi := ?o4t1) (v := ?v4t1) ?h4t1 (by kernel_rfl) ?f4t1 ?r4t1 (fun _ _ _ h => h) (Or.inl ⟨?w4t1, ?y4t1⟩) (by assumption) ?t4t1
    case h4t1 => simp only [List.getElem?_toArray]; rfl
    case f4t1 => kernel_rfl
    case r4t1 => kernel_rfl
    case w4t1 => rfl
    case y4t1 => (intro u hu; (go_simp) <;> with_reducible rfl)
    try simp only [Act.put, List.setIfInBounds_toArray, List.set_cons_zero, List.set_cons_succ]
    refine wpAnyH_take (i := 6) (oi := ?o6t1) (v := ?v6t1) ?h6t1 (by kernel_rfl) ?f6t1 ?r6t1 (fun _ _ _ h => h) (Or.inl ⟨?w6t1, ?y6t1⟩) (by assumption) ?t6t1
    case h6t1 => simp only [List.getElem?_toArray]; rfl
    case f6t1 => kernel_rfl
    case r6t1 => kernel_rfl
    case w6t1 => rfl
    case y6t1 => (intro u hu; (go_simp) <;> with_reducible rfl)
    try simp only [Act.put, List.setIfInBounds_toArray, List.set_cons_zero, List.set_cons_succ]
    have cv := cv0
    rw [show V1.cell? ⟨gB, j, none⟩ = V1.drew.cell? ⟨gB, j, none⟩ from rfl] at cv
    have fv := fv0
    rw [show V1.frozen? ⟨gB, j, none⟩ = V1.drew.frozen? ⟨gB, j, none⟩ from rfl] at fv
    have OY : Hid (Ow V1.drew gB mB XB) := OB.out.later (Below.refl _ _).drew
    have HEY : Hid (Ext W0 V1.drew) := HE0.out.drew
    generalize V1.drew = y0 at *
    refine wpAnyH_ready (rs := [5, 7]) (by kernel_rfl) (by simp) ?_
    refine AllReadyH.cons (o := ?ot2) ?ht2 (fun K hK => ?st2) (AllReadyH.cons (o := ?ot3) ?ht3 (fun K hK => ?st3) AllReadyH.nil)
    case ht2 => simp only [List.getElem?_toArray]; rfl
    case ht3 => simp only [List.getElem?_toArray]; rfl
    case st2 =>
      go_simp
      refine hK.out _ _ hH (fun hH' => ?_)
      clear hK K hH
      have hH := hH'
      clear hH'
      try simp only [List.setIfInBounds_toArray, List.set]
      refine wpAnyH_ready (rs := [7]) (by kernel_rfl) (by simp) ?_
      refine AllReadyH.cons (o := ?o7t5) ?h7t5 (fun K hK => ?_) AllReadyH.nil
      case h7t5 => simp only [List.getElem?_toArray]; rfl
      go_simp
      refine (pick_any bt 255 hi2 (by decide) _).mono ?_
      rintro e w' ⟨s0, rfl, z0, z1, hw⟩
      rw [hw]
      clear hw w'
      refine hK.out _ _ hH (fun hH' => ?_)
      clear hK K hH
      have hH := hH'
      clear hH'
      try simp only [List.setIfInBounds_toArray, List.set]
      obtain ⟨s, hs⟩ : ∃ s, 1 + s0 = s := ⟨_, rfl⟩
      have hs1 : 1 ≤ s ∧ s ≤ 255 := by omega
      have hsw : IntKind.u8.wrap s = s := by rw [IntKind.wrap_u8]; omega
      have hsw2 : IntKind.i64.wrap s = s := by rw [IntKind.wrap_i64]; omega
      obtain ⟨b0, b1, -⟩ := xor8 v s ⟨v0, v1⟩ (by omega)
      refine wpAnyH_take (i := 8) (oi := ?o8t6) (v := ?v8t6) ?h8t6 (by kernel_rfl) ?f8t6 ?r8t6 (fun _ _ _ h => h) (Or.inl ⟨?w8t6, ?y8t6⟩) (by assumption) ?t8t6
      case h8t6 => simp only [List.getElem?_toArray]; rfl
      case f8t6 => kernel_rfl
      case r8t6 => kernel_rfl
      case w8t6 => rfl
      case y8t6 => (intro u hu; (go_simp) <;> with_reducible rfl)
      try simp only [Act.put, List.setIfInBounds_toArray, List.set_cons_zero, List.set_cons_succ]
      refine wpAnyH_take (i := 9) (oi := ?o9t6) (v := ?v9t6) ?h9t6 (by kernel_rfl) ?f9t6 ?r9t6 (fun _ _ _ h => h) (Or.inl ⟨?w9t6, ?y9t6⟩) (by assumption) ?t9t6
      case h9t6 => simp only [List.getElem?_toArray]; rfl
      case f9t6 => kernel_rfl
      case r9t6 => kernel_rfl
      case w9t6 => rfl
      case y9t6 => (intro u hu; (go_simp) <;> with_reducible rfl)
      try simp only [Act.put, List.setIfInBounds_toArray, List.set_cons_zero, List.set_cons_succ]
      clear hs hsw hsw2
      refine wpAnyH_take (i := 10) (oi := ?o10t7) (v := ?v10t7) ?h10t7 (by kernel_rfl) ?f10t7 ?r10t7 (fun _ _ _ h => h) (Or.inl ⟨?w10t7, ?y10t7⟩) (by assumption) ?t10t7
      case h10t7 => simp only [List.getElem?_toArray]; rfl
      case f10t7 => kernel_rfl
      case r10t7 => kernel_rfl
      case w10t7 => rfl
      case y10t7 => (intro u hu; (go_simp) <;> with_reducible rfl)
      try simp only [Act.put, List.setIfInBounds_toArray, List.set_cons_zero, List.set_cons_succ]
      refine wpAnyH_take (i := 11) (oi := ?o11t7) (v := ?v11t7) ?h11t7 (by kernel_rfl) ?f11t7 ?r11t7 (fun _ _ _ h => h) (Or.inl ⟨?w11t7, ?y11t7⟩) (by assumption) ?t11t7
      case h11t7 => simp only [List.getElem?_toArray]; rfl
      case f11t7 => kernel_rfl
      case r11t7 => kernel_rfl
      case w11t7 => rfl
      case y11t7 => (intro u hu; (go_simp) <;> with_reducible rfl)
      try simp only [Act.put, List.setIfInBounds_toArray, List.set_cons_zero, List.set_cons_succ]
      refine wpAnyH_ready (rs := [12]) (by kernel_rfl) (by simp) ?_
      refine AllReadyH.cons (o := ?o12t7) ?h12t7 (fun K hK => ?_) AllReadyH.nil
      case h12t7 => simp only [List.getElem?_toArray]; rfl
      go_simp
      refine hK.out _ _ (hH.set j _) (fun hH' => ?_)
      clear hK K hH
      have hH := hH'
      clear hH'
      try simp only [List.setIfInBounds_toArray, List.set]
      refine wpAnyH_done (by kernel_rfl) ?_ _
      refine NoPanic.normal ?_
      go_wp2_with fail
      go_meet
      case rel => exact ⟨XB.set j (bits .xor .u8 v s), s, hs1, rfl, OY.out.set j b0 b1, HEY.out.setCell (p := ⟨gB, j, none⟩) hgB _⟩
    case st3 =>
      go_simp
      refine (pick_any bt 255 hi2 (by decide) _).mono ?_
      rintro e w' ⟨s0, rfl, z0, z1, hw⟩
      rw [hw]
      clear hw w'
      refine hK.out _ _ hH (fun hH' => ?_)
      clear hK K hH
      have hH := hH'
      clear hH'
      try simp only [List.setIfInBounds_toArray, List.set]
      obtain ⟨s, hs⟩ : ∃ s, 1 + s0 = s := ⟨_, rfl⟩
      have hs1 : 1 ≤ s ∧ s ≤ 255 := by omega
      have hsw : IntKind.u8.wrap s = s := by rw [IntKind.wrap_u8]; omega
      have hsw2 : IntKind.i64.wrap s = s := by rw [IntKind.wrap_i64]; omega
      obtain ⟨b0, b1, -⟩ := xor8 v s ⟨v0, v1⟩ (by omega)
      refine wpAnyH_take (i := 8) (oi := ?o8t9) (v := ?v8t9) ?h8t9 (by kernel_rfl) ?f8t9 ?r8t9 (fun _ _ _ h => h) (Or.inl ⟨?w8t9, ?y8t9⟩) (by assumption) ?t8t9
      case h8t9 => simp only [List.getElem?_toArray]; rfl
      case f8t9 => kernel_rfl
      case r8t9 => kernel_rfl
      case w8t9 => rfl
      case y8t9 => (intro u hu; (go_simp) <;> with_reducible rfl)
      try simp only [Act.put, List.setIfInBounds_toArray, List.set_cons_zero, List.set_cons_succ]
      refine wpAnyH_take (i := 9) (oi := ?o9t9) (v := ?v9t9) ?h9t9 (by kernel_rfl) ?f9t9 ?r9t9 (fun _ _ _ h => h) (Or.inl ⟨?w9t9, ?y9t9⟩) (by assumption) ?t9t9
      case h9t9 => simp only [List.getElem?_toArray]; rfl
      case f9t9 => kernel_rfl
      case r9t9 => kernel_rfl
      case w9t9 => rfl
      case y9t9 => (intro u hu; (go_simp) <;> with_reducible rfl)
      try simp only [Act.put, List.setIfInBounds_toArray, List.set_cons_zero, List.set_cons_succ]
      clear hs hsw hsw2
      refine wpAnyH_ready (rs := [5]) (by kernel_rfl) (by simp) ?_
      refine AllReadyH.cons (o := ?o5t10) ?h5t10 (fun K hK => ?_) AllReadyH.nil
      case h5t10 => simp only [List.getElem?_toArray]; rfl
      go_simp
      refine hK.out _ _ hH (fun hH' => ?_)
      clear hK K hH
      have hH := hH'
      clear hH'
      try simp only [List.setIfInBounds_toArray, List.set]
      refine wpAnyH_take (i := 10) (oi := ?o10t11) (v := ?v10t11) ?h10t11 (by kernel_rfl) ?f10t11 ?r10t11 (fun _ _ _ h => h) (Or.inl ⟨?w10t11, ?y10t11⟩) (by assumption) ?t10t11
      case h10t11 => simp only [List.getElem?_toArray]; rfl
      case f10t11 => kernel_rfl
      case r10t11 => kernel_rfl
      case w10t11 => rfl
      case y10t11 => (intro u hu; (go_simp) <;> with_reducible rfl)
      try simp only [Act.put, List.setIfInBounds_toArray, List.set_cons_zero, List.set_cons_succ]
      refine wpAnyH_take (i := 11) (oi := ?o11t11) (v := ?v11t11) ?h11t11 (by kernel_rfl) ?f11t11 ?r11t11 (fun _ _ _ h => h) (Or.inl ⟨?w11t11, ?y11t11⟩) (by assumption) ?t11t11
      case h11t11 => simp only [List.getElem?_toArray]; rfl
      case f11t11 => kernel_rfl
      case r11t11 => kernel_rfl
      case w11t11 => rfl
      case y11t11 => (intro u hu; (go_simp) <;> with_reducible rfl)
      try simp only [Act.put, List.setIfInBounds_toArray, List.set_cons_zero, List.set_cons_succ]
      refine wpAnyH_ready (rs := [12]) (by kernel_rfl) (by simp) ?_
      refine AllReadyH.cons (o := ?o12t11) ?h12t11 (fun K hK => ?_) AllReadyH.nil
      case h12t11 => simp only [List.getElem?_toArray]; rfl
      go_simp
      refine hK.out _ _ (hH.set j _) (fun hH' => ?_)
      clear hK K hH
      have hH := hH'
      clear hH'
      try simp only [List.setIfInBounds_toArray, List.set]
      refine wpAnyH_done (by kernel_rfl) ?_ _
      refine NoPanic.normal ?_
      go_wp2_with fail
      go_meet
      case rel => exact ⟨XB.set j (bits .xor .u8 v s), s, hs1, rfl, OY.out.set j b0 b1, HEY.out.setCell (p := ⟨gB, j, none⟩) hgB _⟩
  case rest =>
    obtain ⟨X, s, hs, HX, OX, HE⟩ := hcut
    generalize wc = Y at *
    have hb := HE.out
    clear cv0 fv0 OB HE0 HE
    replace AK : Hid (Ar Y w.heap.size 32 (List.map (Value.int .u8) key)) := AK.out.later hb
    replace AN : Hid (Ar Y q1 12 (List.map (Value.int .u8) nonce)) := AN.out.later hb
    replace HRA : Hid (Rd Y aa la ca ad) := HRA.out.below hb
    replace HB : Hid (Below w.heap.size w Y) := HB.out.trans (hb.mono HB.out.size)
    clear hb
    go_wp2_with (first
  | (refine wpList_load_mid rfl 22 (.tmp 6) rfl w.heap.size 0 rfl (List.map (Value.int .u8) key) _ AK.out.rng Try.underlying22 rfl hiK ?_)
  | (refine wpList_load_mid rfl 25 (.tmp 7) rfl q1 0 rfl (List.map (Value.int .u8) nonce) _ AN.out.rng Try.underlying25 rfl hiN ?_))
    refine (open_c key nonce aa la ca ad (some ⟨gB, 0, none⟩) mB mB X HK.out HN.out _ HRA.out OX.out.rd ha hmb).mono ?_
    rintro e V3 ⟨aT, mT, cT, XT, ET, rfl, HET, HXT, RT, hb⟩
    have hEr : er6 key nonce ad X = 8 := by
      rw [HX.out, HXB.out, HJ.out, ← HLT.out]
      refine er6_turn key nonce ad text i hi16 v _ ?_ (xor8_ne v s ⟨v0, v1⟩ hs.out)
      rw [← HXB.out, HLT.out, ← HJ.out]
      exact HV.out
    have hET : ET = 8 := by rw [HET.out, hEr]
    have hmT : mT = 0 := by rw [← RT.out.hlen, HXT.out, op6_not _ _ _ _ (by rw [hEr]; decide)]; rfl
    subst hET hmT
    clear hEr HET HXT RT
    replace HB : Hid (Below w.heap.size w V3) := HB.out.trans (hb.mono HB.out.size)
    clear hb
    clear AK AN HRA hiK hiN OX
    go_wp2
    go_ret
    exact ⟨rfl, HB.out⟩
end Go.Proofs.Ytppmodncljigcaa
