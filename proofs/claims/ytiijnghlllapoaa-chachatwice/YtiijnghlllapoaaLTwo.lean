/-
  ChachaTwice's walk. No statement of the seat is proved here.
-/
import Derived.Test.YtiijnghlllapoaaQOwn
namespace Go.Proofs.Ytiijnghlllapoaa
open Go.RowKit

theorem ap_back (key : List Int) (c : Int) (nonce : List Int) {t : List Int} (ht : Byt t) : ap key c nonce (ap key c nonce t) = t := by
  have e : ap key c nonce (ap key c nonce t) = xorL (ap key c nonce t) (sk key nonce c t.length) := by
    show xorL (ap key c nonce t) (sk key nonce c (ap key c nonce t).length) = _
    rw [ap_len]
  rw [e]
  show xorL (xorL t (sk key nonce c t.length)) (sk key nonce c t.length) = t
  rw [xorL_back ht (sk_byt _ _ _ _), sk_len, List.take_of_length_le]
  omega
theorem str_size (l : List Int) : (strOfNums l).size = l.length := by
  show (strOfNums l).data.size = _
  rw [← Array.length_toList, strOfNums_data, List.length_map]
theorem ad_ad (c : Int) (a b : Nat) : ad (ad c a) b = ad c ((a + b : Nat) : Int) := by unfold ad; omega
theorem sk_app (key nonce : List Int) (c : Int) (a : Nat) : ∀ b, sk key nonce c (a + b) = sk key nonce c a ++ sk key nonce (ad c a) b
  | 0 => by rw [Nat.add_zero, sk, List.append_nil]
  | b + 1 => by rw [← Nat.add_assoc, sk, sk_app key nonce c a b, sk, List.append_assoc, ad_ad]
theorem xorL_head (t z : List Int) : xorL t z = xorL t (z.take t.length) := by
  have h : (xorL t z).take t.length = xorL (t.take t.length) (z.take t.length) := by unfold xorL; rw [List.take_zipWith]
  rw [List.take_length, List.take_of_length_le (by rw [xorL_length]; omega)] at h
  exact h
/-- As many blocks as are enough. -/
theorem ap_enough (key : List Int) (c : Int) (nonce t : List Int) (N : Nat) (h : t.length ≤ 64 * N) : xorL t (sk key nonce c N) = ap key c nonce t := by
  unfold ap
  rcases Nat.le_total t.length N with hle | hle
  · obtain ⟨b, hb⟩ := Nat.exists_eq_add_of_le hle
    rw [hb, sk_app, xorL_head t (_ ++ _), List.take_append_of_le_length (by rw [sk_len]; omega), ← xorL_head]
  · obtain ⟨b, hb⟩ := Nat.exists_eq_add_of_le hle
    have e : sk key nonce c t.length = sk key nonce c N ++ sk key nonce (ad c N) b := by rw [hb, sk_app]
    rw [e, xorL_head t (_ ++ _), List.take_append_of_le_length (by rw [sk_len]; omega), ← xorL_head]
/-- A text in two parts at a block's end. -/
theorem ap_parts (key : List Int) (c : Int) (nonce t : List Int) (k : Nat) (h : 64 * k ≤ t.length) : ap key c nonce (t.take (64 * k)) ++ ap key (ad c k) nonce (t.drop (64 * k)) = ap key c nonce t := by
  rw [← ap_enough key c nonce (t.take (64 * k)) k (by rw [List.length_take]; omega), ← ap_enough key (ad c k) nonce (t.drop (64 * k)) t.length (by rw [List.length_drop]; omega), ← ap_enough key c nonce t (k + t.length) (by omega), sk_app]
  unfold xorL
  have e : (t.take (64 * k)).length = (sk key nonce c k).length := by rw [List.length_take, sk_len]; omega
  rw [← List.zipWith_append e, List.take_append_drop]

set_option maxRecDepth 8000 in
set_option maxHeartbeats 4000000 in
theorem chachaTwice_walk (key : List Int) (count : Int) (nonce : List Int) (n cu : Int) (hk : Bn 32 key) (hc : 0 ≤ count ∧ count < 4294967296) (hn : Bn 12 nonce) (hi : -9223372036854775808 ≤ n ∧ n ≤ 9223372036854775807) (hi2 : -9223372036854775808 ≤ cu ∧ cu ≤ 9223372036854775807) (w : World) :
    Calls Try.prog 4 #[(.agg (List.map (Value.int .u8) key).toArray), .int .u32 count, (.agg (List.map (Value.int .u8) nonce).toArray), .int .i64 n, .int .i64 cu] w fun e w' => e = .returned (.bool true) ∧ Below w.heap.size w w' := by
  have HK : Hid (Bn 32 key) := hk
  have HN : Hid (Bn 12 nonce) := hn
  have HWC : Hid (W32 count) := hc
  obtain ⟨c0, c1⟩ := hc
  clear hk hn
  obtain ⟨_, _, hiK⟩ := bn32_cells HK.out
  obtain ⟨_, _, hiN⟩ := bn12_cells HN.out
  go_enter Try.func4, Try.ntmps4
  go_upto_region 1 with fail
  have AK : Hid (Ar ((w.alloc (.cells (List.map (Value.int .u8) key).toArray 22)).alloc (.cells (List.map (Value.int .u8) nonce).toArray 26)) w.heap.size 32 (List.map (Value.int .u8) key)) := (ar_box w _ 32 HK.out.map_len _).later (bel1 _ _)
  have AN : Hid (Ar ((w.alloc (.cells (List.map (Value.int .u8) key).toArray 22)).alloc (.cells (List.map (Value.int .u8) nonce).toArray 26)) (w.heap.size + 1) 12 (List.map (Value.int .u8) nonce)) := by have := ar_box (w.alloc (.cells (List.map (Value.int .u8) key).toArray 22)) _ 12 HN.out.map_len 26; simpa [Hid] using this
  have HB : Hid (Below w.heap.size w ((w.alloc (.cells (List.map (Value.int .u8) key).toArray 22)).alloc (.cells (List.map (Value.int .u8) nonce).toArray 26))) := bel2 _ _ _
  generalize (w.alloc (.cells (List.map (Value.int .u8) key).toArray 22)).alloc (.cells (List.map (Value.int .u8) nonce).toArray 26) = W0 at *
  have k1 : w.heap.size < w.heap.size + 1 := by omega
  generalize w.heap.size + 1 = q1 at *
  go_wp2_with fail
  refine (pick_any n 500 hi (by decide) _).mono ?_
  rintro e w' ⟨m, rfl, p0, p1, hw⟩
  rw [hw]
  clear hw w'
  obtain ⟨m, rfl⟩ := Int.eq_ofNat_of_zero_le p0
  go_wp2_with fail
  refine (bytes_c m n (by omega) _).mono ?_
  rintro e V1 ⟨g1, t, rfl, HT0, HT1, hb⟩
  have OT : Hid (Ow V1 g1 m t) := ⟨⟨_, HT1.out⟩, HT0.out⟩
  clear HT0 HT1
  replace AK : Hid (Ar V1 w.heap.size 32 (List.map (Value.int .u8) key)) := AK.out.later hb
  replace AN : Hid (Ar V1 q1 12 (List.map (Value.int .u8) nonce)) := AN.out.later hb
  replace HB : Hid (Below w.heap.size w V1) := HB.out.trans (Below.mono hb HB.out.size)
  clear hb
  go_wp2_with (first
    | (refine wpList_load_mid rfl 22 (.tmp 5) rfl (w.heap.size) 0 rfl (List.map (Value.int .u8) key) _ AK.out.rng Try.underlying22 rfl hiK ?_)
    | (refine wpList_load_mid rfl 26 (.tmp 7) rfl q1 0 rfl (List.map (Value.int .u8) nonce) _ AN.out.rng Try.underlying26 rfl hiN ?_))
  refine (apply_o key count nonce _ m m t HK.out HWC.out HN.out _ OT.out.rd (by omega)).mono ?_
  rintro e V2 ⟨g2, X, rfl, HX, OX, hg12, hb⟩
  replace AK : Hid (Ar V2 w.heap.size 32 (List.map (Value.int .u8) key)) := AK.out.later hb
  replace AN : Hid (Ar V2 q1 12 (List.map (Value.int .u8) nonce)) := AN.out.later hb
  replace HB : Hid (Below w.heap.size w V2) := HB.out.trans (Below.mono hb HB.out.size)
  replace OT : Hid (Ow V2 g1 m t) := OT.out.later hb
  clear hb hg12
  go_wp2_with fail
  refine (pick_any cu 8 hi2 (by decide) _).mono ?_
  rintro e w' ⟨c, rfl, q0, q2, hw⟩
  rw [hw]
  clear hw w'
  obtain ⟨c, rfl⟩ := Int.eq_ofNat_of_zero_le q0
  go_upto_if 31 with fail
  go_cut [13] from 32 (fun v wx => ∃ kk : Nat, v = .int .i64 ((64 * kk : Nat) : Int) ∧ 64 * kk ≤ m ∧ wx = V2)
  case first =>
    by_cases hgt : m < 64 * c
    · have hgt' : (m : Int) < 64 * c := by omega
      go_wp2_with fail
      go_meet
      exact ⟨0, rfl, by omega, rfl⟩
    · have hgt' : ¬ (m : Int) < 64 * c := by omega
      go_wp2_with fail
      go_meet
      exact ⟨c, by simp, by omega, rfl⟩
  case rest =>
    obtain ⟨kk, rfl, hkk, hwc⟩ := hcut
    rw [hwc]
    clear hwc wc
    obtain ⟨kq, hK⟩ : ∃ kq, kq = 64 * kk := ⟨_, rfl⟩
    rw [← hK] at hkk ⊢
    have HKK : Hid (kq = 64 * kk) := hK
    have gK : (kq : Int) ≤ m := by omega
    have gK0 : (kq : Int).toNat = kq := by omega
    have hq3 : Int.tdiv (kq : Int) 64 = (kk : Int) := by rw [Int.tdiv_eq_ediv_of_nonneg (by omega)]; omega
    have hq35 : IntKind.i64.wrap (kk : Int) = kk := by rw [IntKind.wrap_i64]; omega
    have hq4 : IntKind.u32.wrap (kk : Int) = kk := by rw [IntKind.wrap_u32']; omega
    obtain ⟨d, hd⟩ : ∃ d, d = ad count kk := ⟨_, rfl⟩
    have hq5 : IntKind.u32.wrap (count + kk) = d := by rw [hd]; exact wrap_ad _ _
    have HD : Hid (d = ad count kk) := hd
    have hdw : W32 d := by rw [hd]; exact ad_w _ _
    have HDW : Hid (W32 d) := hdw
    clear hK hd hdw
    obtain ⟨a7, ha7⟩ : ∃ a, (if m = kq then some (⟨g1, 0, none⟩ : Addr) else some ⟨g1, kq, none⟩) = a := ⟨_, rfl⟩
    have HA7 : Hid (∀ u, Ow u g1 m t → Rd u a7 (m - kq) (m - kq) (t.drop kq)) := fun u hu => by
      by_cases e : m = kq
      · rw [if_pos e] at ha7
        rw [← ha7, e, Nat.sub_self, List.drop_eq_nil_of_le (by rw [hu.len]; omega)]
        exact Rd.nil _ _ _ (fun h => by cases h)
      · rw [if_neg e] at ha7
        rw [← ha7]
        have := hu.rd.from kq hkk (m - kq) (m - kq) rfl (Nat.le_refl _)
        rwa [Nat.zero_add] at this
    go_upto_region 6 with fail
    refine wp_region_noPanic ?_
    refine wp_region_held_drew (S := Ext V2) (by kernel_rfl) (Ext.refl _).drew (fun hH => ?_)
    change wpAnyH _ _ _ _ _ _ #[false, false, false, false, false, false, false, false] _ _
    refine wpAnyH_take (i := 0) (oi := ?o0a6) (v := .agg (List.map (Value.int .u8) key).toArray) ?h0a6 (by kernel_rfl) ?f0a6 ?r0a6 (fun _ _ _ h => h) ?y0a6 (by assumption) ?t0a6
    case h0a6 => simp only [List.getElem?_toArray]; rfl
    case f0a6 => kernel_rfl
    case r0a6 => kernel_rfl
    case y0a6 => exact yieldsIf_load_mid (by rfl) 22 (.tmp 5) rfl w.heap.size 0 rfl (List.map (Value.int .u8) key) _ (fun u hu => range_later hu AK.out.rng) Try.underlying22 rfl hiK
    try simp only [Act.put, List.setIfInBounds_toArray, List.set_cons_zero, List.set_cons_succ]
    refine wpAnyH_take (i := 1) (oi := ?o1a6) (v := ?v1a6) ?h1a6 (by kernel_rfl) ?f1a6 ?r1a6 (fun _ _ _ h => h) (Or.inl ⟨?w1a6, ?y1a6⟩) (by assumption) ?t1a6
    case h1a6 => simp only [List.getElem?_toArray]; rfl
    case f1a6 => kernel_rfl
    case r1a6 => kernel_rfl
    case w1a6 => rfl
    case y1a6 => (intro u hu; (go_simp) <;> with_reducible rfl)
    try simp only [Act.put, List.setIfInBounds_toArray, List.set_cons_zero, List.set_cons_succ]
    refine wpAnyH_take (i := 2) (oi := ?o2a6) (v := .agg (List.map (Value.int .u8) nonce).toArray) ?h2a6 (by kernel_rfl) ?f2a6 ?r2a6 (fun _ _ _ h => h) ?y2a6 (by assumption) ?t2a6
    case h2a6 => simp only [List.getElem?_toArray]; rfl
    case f2a6 => kernel_rfl
    case r2a6 => kernel_rfl
    case y2a6 => exact yieldsIf_load_mid (by rfl) 26 (.tmp 7) rfl q1 0 rfl (List.map (Value.int .u8) nonce) _ (fun u hu => range_later hu AN.out.rng) Try.underlying26 rfl hiN
    try simp only [Act.put, List.setIfInBounds_toArray, List.set_cons_zero, List.set_cons_succ]
    refine wpAnyH_take (i := 3) (oi := ?o3a6) (v := ?v3a6) ?h3a6 (by kernel_rfl) ?f3a6 ?r3a6 (fun _ _ _ h => h) (Or.inl ⟨?w3a6, ?y3a6⟩) (by assumption) ?t3a6
    case h3a6 => simp only [List.getElem?_toArray]; rfl
    case f3a6 => kernel_rfl
    case r3a6 => kernel_rfl
    case w3a6 => rfl
    case y3a6 => (intro u hu; (go_simp) <;> with_reducible rfl)
    try simp only [Act.put, List.setIfInBounds_toArray, List.set_cons_zero, List.set_cons_succ]
    refine wpAnyH_take (i := 4) (oi := ?o4a6) (v := ?v4a6) ?h4a6 (by kernel_rfl) ?f4a6 ?r4a6 (fun _ _ _ h => h) (Or.inl ⟨?w4a6, ?y4a6⟩) (by assumption) ?t4a6
    case h4a6 => simp only [List.getElem?_toArray]; rfl
    case f4a6 => kernel_rfl
    case r4a6 => kernel_rfl
    case w4a6 => rfl
    case y4a6 => (intro u hu; (go_simp) <;> with_reducible rfl)
    try simp only [Act.put, List.setIfInBounds_toArray, List.set_cons_zero, List.set_cons_succ]
    refine wpAnyH_take (i := 5) (oi := ?o5a6) (v := ?v5a6) ?h5a6 (by kernel_rfl) ?f5a6 ?r5a6 (fun _ _ _ h => h) (Or.inl ⟨?w5a6, ?y5a6⟩) (by assumption) ?t5a6
    case h5a6 => simp only [List.getElem?_toArray]; rfl
    case f5a6 => kernel_rfl
    case r5a6 => kernel_rfl
    case w5a6 => rfl
    case y5a6 => (intro u hu; (go_simp) <;> with_reducible rfl)
    try simp only [Act.put, List.setIfInBounds_toArray, List.set_cons_zero, List.set_cons_succ]
    refine wpAnyH_ready (rs := [6]) (by kernel_rfl) (by simp) ?_
    refine AllReadyH.cons (o := ?o6a6) ?h6a6 (fun K hK => ?_) AllReadyH.nil
    case h6a6 => simp only [List.getElem?_toArray]; rfl
    go_simp
    refine (apply_o key count nonce _ kq m (t.take kq) HK.out HWC.out HN.out _ ((OT.out.rd.below hH).cut kq hkk) (by omega)).mono ?_
    rintro e V3 ⟨g3, XA, rfl, HXA, OA, hcA, hb⟩
    refine hK.out _ _ (hH.trans hb) (fun hH' => ?_)
    clear hK K hH
    have hH := hH'
    clear hH'
    try simp only [List.setIfInBounds_toArray, List.set]
    refine wpAnyH_take (i := 7) (oi := ?o7a6) (v := ?v7a6) ?h7a6 (by kernel_rfl) ?f7a6 ?r7a6 (fun _ _ _ h => h) (Or.inl ⟨?w7a6, ?y7a6⟩) (by assumption) ?t7a6
    case h7a6 => simp only [List.getElem?_toArray]; rfl
    case f7a6 => kernel_rfl
    case r7a6 => kernel_rfl
    case w7a6 => rfl
    case y7a6 => (intro u hu; (go_simp) <;> with_reducible rfl)
    try simp only [Act.put, List.setIfInBounds_toArray, List.set_cons_zero, List.set_cons_succ]
    refine wpAnyH_done (by kernel_rfl) ?_ _
    refine NoPanic.normal ?_
    replace AK : Hid (Ar V3 w.heap.size 32 (List.map (Value.int .u8) key)) := AK.out.later hH
    replace AN : Hid (Ar V3 q1 12 (List.map (Value.int .u8) nonce)) := AN.out.later hH
    replace HB : Hid (Below w.heap.size w V3) := HB.out.trans (Below.mono hH HB.out.size)
    replace OT : Hid (Ow V3 g1 m t) := OT.out.later hH
    replace OX : Hid (Ow V3 g2 m X) := OX.out.later hH
    clear hb hH
    clear hcA
    go_upto_region 7 with fail
    refine wp_region_noPanic ?_
    refine wp_region_held_drew (S := Ext V3) (by kernel_rfl) (Ext.refl _).drew (fun hH => ?_)
    change wpAnyH _ _ _ _ _ _ #[false, false, false, false, false, false, false, false, false, false, false, false] _ _
    refine wpAnyH_take (i := 0) (oi := ?o0a7) (v := .agg (List.map (Value.int .u8) key).toArray) ?h0a7 (by kernel_rfl) ?f0a7 ?r0a7 (fun _ _ _ h => h) ?y0a7 (by assumption) ?t0a7
    case h0a7 => simp only [List.getElem?_toArray]; rfl
    case f0a7 => kernel_rfl
    case r0a7 => kernel_rfl
    case y0a7 => exact yieldsIf_load_mid (by rfl) 22 (.tmp 5) rfl w.heap.size 0 rfl (List.map (Value.int .u8) key) _ (fun u hu => range_later hu AK.out.rng) Try.underlying22 rfl hiK
    try simp only [Act.put, List.setIfInBounds_toArray, List.set_cons_zero, List.set_cons_succ]
    refine wpAnyH_take (i := 1) (oi := ?o1a7) (v := ?v1a7) ?h1a7 (by kernel_rfl) ?f1a7 ?r1a7 (fun _ _ _ h => h) (Or.inl ⟨?w1a7, ?y1a7⟩) (by assumption) ?t1a7
    case h1a7 => simp only [List.getElem?_toArray]; rfl
    case f1a7 => kernel_rfl
    case r1a7 => kernel_rfl
    case w1a7 => rfl
    case y1a7 => (intro u hu; (go_simp) <;> with_reducible rfl)
    try simp only [Act.put, List.setIfInBounds_toArray, List.set_cons_zero, List.set_cons_succ]
    refine wpAnyH_take (i := 2) (oi := ?o2a7) (v := ?v2a7) ?h2a7 (by kernel_rfl) ?f2a7 ?r2a7 (fun _ _ _ h => h) (Or.inl ⟨?w2a7, ?y2a7⟩) (by assumption) ?t2a7
    case h2a7 => simp only [List.getElem?_toArray]; rfl
    case f2a7 => kernel_rfl
    case r2a7 => kernel_rfl
    case w2a7 => rfl
    case y2a7 => (intro u hu; (go_simp) <;> with_reducible rfl)
    try simp only [Act.put, List.setIfInBounds_toArray, List.set_cons_zero, List.set_cons_succ]
    refine wpAnyH_take (i := 3) (oi := ?o3a7) (v := ?v3a7) ?h3a7 (by kernel_rfl) ?f3a7 ?r3a7 (fun _ _ _ h => h) (Or.inl ⟨?w3a7, ?y3a7⟩) (by assumption) ?t3a7
    case h3a7 => simp only [List.getElem?_toArray]; rfl
    case f3a7 => kernel_rfl
    case r3a7 => kernel_rfl
    case w3a7 => rfl
    case y3a7 => (intro u hu; (go_simp) <;> with_reducible rfl)
    try simp only [Act.put, List.setIfInBounds_toArray, List.set_cons_zero, List.set_cons_succ]
    refine wpAnyH_take (i := 4) (oi := ?o4a7) (v := ?v4a7) ?h4a7 (by kernel_rfl) ?f4a7 ?r4a7 (fun _ _ _ h => h) (Or.inl ⟨?w4a7, ?y4a7⟩) (by assumption) ?t4a7
    case h4a7 => simp only [List.getElem?_toArray]; rfl
    case f4a7 => kernel_rfl
    case r4a7 => kernel_rfl
    case w4a7 => rfl
    case y4a7 => (intro u hu; (go_simp) <;> with_reducible rfl)
    try simp only [Act.put, List.setIfInBounds_toArray, List.set_cons_zero, List.set_cons_succ]
    refine wpAnyH_take (i := 5) (oi := ?o5a7) (v := ?v5a7) ?h5a7 (by kernel_rfl) ?f5a7 ?r5a7 (fun _ _ _ h => h) (Or.inl ⟨?w5a7, ?y5a7⟩) (by assumption) ?t5a7
    case h5a7 => simp only [List.getElem?_toArray]; rfl
    case f5a7 => kernel_rfl
    case r5a7 => kernel_rfl
    case w5a7 => rfl
    case y5a7 => (intro u hu; (go_simp) <;> with_reducible rfl)
    try simp only [Act.put, List.setIfInBounds_toArray, List.set_cons_zero, List.set_cons_succ]
    refine wpAnyH_take (i := 6) (oi := ?o6a7) (v := .agg (List.map (Value.int .u8) nonce).toArray) ?h6a7 (by kernel_rfl) ?f6a7 ?r6a7 (fun _ _ _ h => h) ?y6a7 (by assumption) ?t6a7
    case h6a7 => simp only [List.getElem?_toArray]; rfl
    case f6a7 => kernel_rfl
    case r6a7 => kernel_rfl
    case y6a7 => exact yieldsIf_load_mid (by rfl) 26 (.tmp 7) rfl q1 0 rfl (List.map (Value.int .u8) nonce) _ (fun u hu => range_later hu AN.out.rng) Try.underlying26 rfl hiN
    try simp only [Act.put, List.setIfInBounds_toArray, List.set_cons_zero, List.set_cons_succ]
    refine wpAnyH_take (i := 7) (oi := ?o7a7) (v := ?v7a7) ?h7a7 (by kernel_rfl) ?f7a7 ?r7a7 (fun _ _ _ h => h) (Or.inl ⟨?w7a7, ?y7a7⟩) (by assumption) ?t7a7
    case h7a7 => simp only [List.getElem?_toArray]; rfl
    case f7a7 => kernel_rfl
    case r7a7 => kernel_rfl
    case w7a7 => rfl
    case y7a7 => (intro u hu; (go_simp) <;> with_reducible rfl)
    try simp only [Act.put, List.setIfInBounds_toArray, List.set_cons_zero, List.set_cons_succ]
    refine wpAnyH_take (i := 8) (oi := ?o8a7) (v := ?v8a7) ?h8a7 (by kernel_rfl) ?f8a7 ?r8a7 (fun _ _ _ h => h) (Or.inl ⟨?w8a7, ?y8a7⟩) (by assumption) ?t8a7
    case h8a7 => simp only [List.getElem?_toArray]; rfl
    case f8a7 => kernel_rfl
    case r8a7 => kernel_rfl
    case w8a7 => rfl
    case y8a7 => (intro u hu; (go_simp) <;> with_reducible rfl)
    try simp only [Act.put, List.setIfInBounds_toArray, List.set_cons_zero, List.set_cons_succ]
    refine wpAnyH_take (i := 9) (oi := ?o9a7) (v := ?v9a7) ?h9a7 (by kernel_rfl) ?f9a7 ?r9a7 (fun _ _ _ h => h) (Or.inl ⟨?w9a7, ?y9a7⟩) (by assumption) ?t9a7
    case h9a7 => simp only [List.getElem?_toArray]; rfl
    case f9a7 => kernel_rfl
    case r9a7 => kernel_rfl
    case w9a7 => rfl
    case y9a7 => (intro u hu; (go_simp) <;> with_reducible rfl)
    try simp only [Act.put, List.setIfInBounds_toArray, List.set_cons_zero, List.set_cons_succ]
    clear hq3 hq35 hq4 hq5
    try simp only [ha7]
    refine wpAnyH_ready (rs := [10]) (by kernel_rfl) (by simp) ?_
    refine AllReadyH.cons (o := ?o10a7) ?h10a7 (fun K hK => ?_) AllReadyH.nil
    case h10a7 => simp only [List.getElem?_toArray]; rfl
    go_simp
    refine (apply_o key d nonce a7 (m - kq) (m - kq) (t.drop kq) HK.out HDW.out HN.out _ (HA7.out _ (OT.out.later hH)) (by omega)).mono ?_
    rintro e V4 ⟨g4, XB, rfl, HXB, OB, hcB, hb⟩
    refine hK.out _ _ (hH.trans hb) (fun hH' => ?_)
    clear hK K hH
    have hH := hH'
    clear hH'
    try simp only [List.setIfInBounds_toArray, List.set]
    refine wpAnyH_take (i := 11) (oi := ?o11a7) (v := ?v11a7) ?h11a7 (by kernel_rfl) ?f11a7 ?r11a7 (fun _ _ _ h => h) (Or.inl ⟨?w11a7, ?y11a7⟩) (by assumption) ?t11a7
    case h11a7 => simp only [List.getElem?_toArray]; rfl
    case f11a7 => kernel_rfl
    case r11a7 => kernel_rfl
    case w11a7 => rfl
    case y11a7 => (intro u hu; (go_simp) <;> with_reducible rfl)
    try simp only [Act.put, List.setIfInBounds_toArray, List.set_cons_zero, List.set_cons_succ]
    refine wpAnyH_done (by kernel_rfl) ?_ _
    refine NoPanic.normal ?_
    replace AK : Hid (Ar V4 w.heap.size 32 (List.map (Value.int .u8) key)) := AK.out.later hH
    replace AN : Hid (Ar V4 q1 12 (List.map (Value.int .u8) nonce)) := AN.out.later hH
    replace HB : Hid (Below w.heap.size w V4) := HB.out.trans (Below.mono hH HB.out.size)
    replace OT : Hid (Ow V4 g1 m t) := OT.out.later hH
    replace OX : Hid (Ow V4 g2 m X) := OX.out.later hH
    replace OA : Hid (Ow V4 g3 kq XA) := OA.out.later hH
    clear hb hH hcB HA7 ha7
    have HE : Hid (strOfNums XA ++ strOfNums XB = strOfNums X) := by
      unfold Hid
      rw [str_app, HXA.out, HXB.out, HD.out, HKK.out, HX.out, ap_parts key count nonce t kk (by rw [OT.out.len, ← HKK.out]; exact hkk)]
    have HAB : Hid (ap key count nonce X = t) := by unfold Hid; rw [HX.out]; exact ap_back _ _ _ OT.out.byt
    have st : ∀ u, Ext V4 u → (convert 28 9 (.slice (some ⟨g1, 0, none⟩) m m)).run Try.prog u = .ok (.string (strOfNums t)) u := fun u hu => str_of (OT.out.rd.below hu)
    have sx : ∀ u, Ext V4 u → (convert 28 9 (.slice (some ⟨g2, 0, none⟩) m m)).run Try.prog u = .ok (.string (strOfNums X)) u := fun u hu => str_of (OX.out.rd.below hu)
    have sa : ∀ u, Ext V4 u → (convert 28 9 (.slice (some ⟨g3, 0, none⟩) kq kq)).run Try.prog u = .ok (.string (strOfNums XA)) u := fun u hu => str_of (OA.out.rd.below hu)
    have sb : ∀ u, Ext V4 u → (convert 28 9 (.slice (some ⟨g4, 0, none⟩) (m - kq) (m - kq))).run Try.prog u = .ok (.string (strOfNums XB)) u := fun u hu => str_of (OB.out.rd.below hu)
    go_upto_region 8 with fail
    refine wp_region_noPanic ?_
    refine wp_region_held_drew (S := Ext V4) (by kernel_rfl) (Ext.refl _).drew (fun hH => ?_)
    change wpAnyH _ _ _ _ _ _ #[false, false, false, false, false, false, false, false, false, false, false, false, false, false, false, false, false, false, false, false, false, false, false, false, false, false, false, false, false, false] _ _
    refine wpAnyH_ready (rs := [0]) (by kernel_rfl) (by simp) ?_
    refine AllReadyH.cons (o := ?o0a8) ?h0a8 (fun K hK => ?_) AllReadyH.nil
    case h0a8 => simp only [List.getElem?_toArray]; rfl
    go_simp
    refine (known4_any _).mono ?_
    rintro e V5 ⟨rfl, hb⟩
    refine hK.out _ _ (hH.trans hb) (fun hH' => ?_)
    clear hK K hH
    have hH := hH'
    clear hH'
    try simp only [List.setIfInBounds_toArray, List.set]
    clear hb
    refine wpAnyH_take (i := 1) (oi := ?o1a8) (v := ?v1a8) ?h1a8 (by kernel_rfl) ?f1a8 ?r1a8 (fun _ _ _ h => h) (Or.inl ⟨?w1a8, ?y1a8⟩) (by assumption) ?t1a8
    case h1a8 => simp only [List.getElem?_toArray]; rfl
    case f1a8 => kernel_rfl
    case r1a8 => kernel_rfl
    case w1a8 => rfl
    case y1a8 => (intro u hu; (go_simp) <;> with_reducible rfl)
    try simp only [Act.put, List.setIfInBounds_toArray, List.set_cons_zero, List.set_cons_succ]
    refine wpAnyH_take (i := 2) (oi := ?o2a8) (v := .agg (List.map (Value.int .u8) key).toArray) ?h2a8 (by kernel_rfl) ?f2a8 ?r2a8 (fun _ _ _ h => h) ?y2a8 (by assumption) ?t2a8
    case h2a8 => simp only [List.getElem?_toArray]; rfl
    case f2a8 => kernel_rfl
    case r2a8 => kernel_rfl
    case y2a8 => exact yieldsIf_load_mid (by rfl) 22 (.tmp 5) rfl w.heap.size 0 rfl (List.map (Value.int .u8) key) _ (fun u hu => range_later hu AK.out.rng) Try.underlying22 rfl hiK
    try simp only [Act.put, List.setIfInBounds_toArray, List.set_cons_zero, List.set_cons_succ]
    refine wpAnyH_take (i := 3) (oi := ?o3a8) (v := ?v3a8) ?h3a8 (by kernel_rfl) ?f3a8 ?r3a8 (fun _ _ _ h => h) (Or.inl ⟨?w3a8, ?y3a8⟩) (by assumption) ?t3a8
    case h3a8 => simp only [List.getElem?_toArray]; rfl
    case f3a8 => kernel_rfl
    case r3a8 => kernel_rfl
    case w3a8 => rfl
    case y3a8 => (intro u hu; (go_simp) <;> with_reducible rfl)
    try simp only [Act.put, List.setIfInBounds_toArray, List.set_cons_zero, List.set_cons_succ]
    refine wpAnyH_take (i := 4) (oi := ?o4a8) (v := .agg (List.map (Value.int .u8) nonce).toArray) ?h4a8 (by kernel_rfl) ?f4a8 ?r4a8 (fun _ _ _ h => h) ?y4a8 (by assumption) ?t4a8
    case h4a8 => simp only [List.getElem?_toArray]; rfl
    case f4a8 => kernel_rfl
    case r4a8 => kernel_rfl
    case y4a8 => exact yieldsIf_load_mid (by rfl) 26 (.tmp 7) rfl q1 0 rfl (List.map (Value.int .u8) nonce) _ (fun u hu => range_later hu AN.out.rng) Try.underlying26 rfl hiN
    try simp only [Act.put, List.setIfInBounds_toArray, List.set_cons_zero, List.set_cons_succ]
    refine wpAnyH_take (i := 5) (oi := ?o5a8) (v := ?v5a8) ?h5a8 (by kernel_rfl) ?f5a8 ?r5a8 (fun _ _ _ h => h) (Or.inl ⟨?w5a8, ?y5a8⟩) (by assumption) ?t5a8
    case h5a8 => simp only [List.getElem?_toArray]; rfl
    case f5a8 => kernel_rfl
    case r5a8 => kernel_rfl
    case w5a8 => rfl
    case y5a8 => (intro u hu; (go_simp) <;> with_reducible rfl)
    try simp only [Act.put, List.setIfInBounds_toArray, List.set_cons_zero, List.set_cons_succ]
    refine wpAnyH_take (i := 8) (oi := ?o8a8) (v := ?v8a8) ?h8a8 (by kernel_rfl) ?f8a8 ?r8a8 (fun _ _ _ h => h) (Or.inl ⟨?w8a8, ?y8a8⟩) (by assumption) ?t8a8
    case h8a8 => simp only [List.getElem?_toArray]; rfl
    case f8a8 => kernel_rfl
    case r8a8 => kernel_rfl
    case w8a8 => rfl
    case y8a8 => (intro u hu; (go_simp) <;> with_reducible rfl)
    try simp only [Act.put, List.setIfInBounds_toArray, List.set_cons_zero, List.set_cons_succ]
    refine wpAnyH_take (i := 9) (oi := ?o9a8) (v := ?v9a8) ?h9a8 (by kernel_rfl) ?f9a8 ?r9a8 (fun _ _ _ h => h) (Or.inl ⟨?w9a8, ?y9a8⟩) (by assumption) ?t9a8
    case h9a8 => simp only [List.getElem?_toArray]; rfl
    case f9a8 => kernel_rfl
    case r9a8 => kernel_rfl
    case w9a8 => rfl
    case y9a8 => (intro u hu; (have h1 := st u hu; go_simp) <;> with_reducible rfl)
    try simp only [Act.put, List.setIfInBounds_toArray, List.set_cons_zero, List.set_cons_succ]
    refine wpAnyH_ready (rs := [6]) (by kernel_rfl) (by simp) ?_
    refine AllReadyH.cons (o := ?o6a8) ?h6a8 (fun K hK => ?_) AllReadyH.nil
    case h6a8 => simp only [List.getElem?_toArray]; rfl
    go_simp
    refine (apply_o key count nonce _ m m X HK.out HWC.out HN.out _ (OX.out.rd.below hH) (by omega)).mono ?_
    rintro e V6 ⟨g5, X2, rfl, HX2, O2, hc2, hb⟩
    refine hK.out _ _ (hH.trans hb) (fun hH' => ?_)
    clear hK K hH
    have hH := hH'
    clear hH'
    try simp only [List.setIfInBounds_toArray, List.set]
    clear hc2
    have O2' : Hid (Ow V6 g5 m t) := by unfold Hid; rw [← HAB.out, ← HX2.out]; exact O2.out
    clear O2 hb
    have HH : Hid (Ext V4 V6) := hH
    refine wpAnyH_mono (S' := Ext V6) (fun u hu => Ext.trans hH hu) ?_
    clear hH
    have hH := Ext.refl V6
    have s2 : ∀ u, Ext V6 u → (convert 28 9 (.slice (some ⟨g5, 0, none⟩) m m)).run Try.prog u = .ok (.string (strOfNums t)) u := fun u hu => str_of (O2'.out.rd.below hu)
    refine wpAnyH_take (i := 7) (oi := ?o7a8) (v := ?v7a8) ?h7a8 (by kernel_rfl) ?f7a8 ?r7a8 (fun _ _ _ h => h) (Or.inl ⟨?w7a8, ?y7a8⟩) (by assumption) ?t7a8
    case h7a8 => simp only [List.getElem?_toArray]; rfl
    case f7a8 => kernel_rfl
    case r7a8 => kernel_rfl
    case w7a8 => rfl
    case y7a8 => (intro u hu; (have h1 := s2 u hu; go_simp) <;> with_reducible rfl)
    try simp only [Act.put, List.setIfInBounds_toArray, List.set_cons_zero, List.set_cons_succ]
    refine wpAnyH_take (i := 10) (oi := ?o10a8) (v := ?v10a8) ?h10a8 (by kernel_rfl) ?f10a8 ?r10a8 (fun _ _ _ h => h) (Or.inl ⟨?w10a8, ?y10a8⟩) (by assumption) ?t10a8
    case h10a8 => simp only [List.getElem?_toArray]; rfl
    case f10a8 => kernel_rfl
    case r10a8 => kernel_rfl
    case w10a8 => rfl
    case y10a8 => (intro u hu; (go_simp) <;> with_reducible rfl)
    try simp only [Act.put, List.setIfInBounds_toArray, List.set_cons_zero, List.set_cons_succ]
    refine wpAnyH_take (i := 11) (oi := ?o11a8) (v := ?v11a8) ?h11a8 (by kernel_rfl) ?f11a8 ?r11a8 (fun _ _ _ h => h) (Or.inl ⟨?w11a8, ?y11a8⟩) (by assumption) ?t11a8
    case h11a8 => simp only [List.getElem?_toArray]; rfl
    case f11a8 => kernel_rfl
    case r11a8 => kernel_rfl
    case w11a8 => rfl
    case y11a8 => (intro u hu; (go_simp) <;> with_reducible rfl)
    try simp only [Act.put, List.setIfInBounds_toArray, List.set_cons_zero, List.set_cons_succ]
    refine wpAnyH_take (i := 12) (oi := ?o12a8) (v := ?v12a8) ?h12a8 (by kernel_rfl) ?f12a8 ?r12a8 (fun _ _ _ h => h) (Or.inl ⟨?w12a8, ?y12a8⟩) (by assumption) ?t12a8
    case h12a8 => simp only [List.getElem?_toArray]; rfl
    case f12a8 => kernel_rfl
    case r12a8 => kernel_rfl
    case w12a8 => rfl
    case y12a8 => (intro u hu; (go_simp) <;> with_reducible rfl)
    try simp only [Act.put, List.setIfInBounds_toArray, List.set_cons_zero, List.set_cons_succ]
    refine wpAnyH_take (i := 13) (oi := ?o13a8) (v := ?v13a8) ?h13a8 (by kernel_rfl) ?f13a8 ?r13a8 (fun _ _ _ h => h) (Or.inl ⟨?w13a8, ?y13a8⟩) (by assumption) ?t13a8
    case h13a8 => simp only [List.getElem?_toArray]; rfl
    case f13a8 => kernel_rfl
    case r13a8 => kernel_rfl
    case w13a8 => rfl
    case y13a8 => (intro u hu; (go_simp) <;> with_reducible rfl)
    try simp only [Act.put, List.setIfInBounds_toArray, List.set_cons_zero, List.set_cons_succ]
    refine wpAnyH_take (i := 14) (oi := ?o14a8) (v := ?v14a8) ?h14a8 (by kernel_rfl) ?f14a8 ?r14a8 (fun _ _ _ h => h) (Or.inl ⟨?w14a8, ?y14a8⟩) (by assumption) ?t14a8
    case h14a8 => simp only [List.getElem?_toArray]; rfl
    case f14a8 => kernel_rfl
    case r14a8 => kernel_rfl
    case w14a8 => rfl
    case y14a8 => (intro u hu; (have h1 := sa u (Ext.trans HH.out hu); go_simp) <;> with_reducible rfl)
    try simp only [Act.put, List.setIfInBounds_toArray, List.set_cons_zero, List.set_cons_succ]
    refine wpAnyH_take (i := 15) (oi := ?o15a8) (v := ?v15a8) ?h15a8 (by kernel_rfl) ?f15a8 ?r15a8 (fun _ _ _ h => h) (Or.inl ⟨?w15a8, ?y15a8⟩) (by assumption) ?t15a8
    case h15a8 => simp only [List.getElem?_toArray]; rfl
    case f15a8 => kernel_rfl
    case r15a8 => kernel_rfl
    case w15a8 => rfl
    case y15a8 => (intro u hu; (go_simp) <;> with_reducible rfl)
    try simp only [Act.put, List.setIfInBounds_toArray, List.set_cons_zero, List.set_cons_succ]
    refine wpAnyH_take (i := 16) (oi := ?o16a8) (v := ?v16a8) ?h16a8 (by kernel_rfl) ?f16a8 ?r16a8 (fun _ _ _ h => h) (Or.inl ⟨?w16a8, ?y16a8⟩) (by assumption) ?t16a8
    case h16a8 => simp only [List.getElem?_toArray]; rfl
    case f16a8 => kernel_rfl
    case r16a8 => kernel_rfl
    case w16a8 => rfl
    case y16a8 => (intro u hu; (have h1 := sb u (Ext.trans HH.out hu); go_simp) <;> with_reducible rfl)
    try simp only [Act.put, List.setIfInBounds_toArray, List.set_cons_zero, List.set_cons_succ]
    have hE := HE.out
    have hsz : ¬ 9223372036854775807 < (strOfNums XA).size + (strOfNums XB).size := by rw [str_size, str_size, OA.out.len, OB.out.len]; omega
    refine wpAnyH_take (i := 17) (oi := ?o17a8) (v := ?v17a8) ?h17a8 (by kernel_rfl) ?f17a8 ?r17a8 (fun _ _ _ h => h) (Or.inl ⟨?w17a8, ?y17a8⟩) (by assumption) ?t17a8
    case h17a8 => simp only [List.getElem?_toArray]; rfl
    case f17a8 => kernel_rfl
    case r17a8 => kernel_rfl
    case w17a8 => rfl
    case y17a8 => (intro u hu; (go_simp) <;> with_reducible rfl)
    try simp only [Act.put, List.setIfInBounds_toArray, List.set_cons_zero, List.set_cons_succ]
    clear hE hsz
    refine wpAnyH_take (i := 18) (oi := ?o18a8) (v := ?v18a8) ?h18a8 (by kernel_rfl) ?f18a8 ?r18a8 (fun _ _ _ h => h) (Or.inl ⟨?w18a8, ?y18a8⟩) (by assumption) ?t18a8
    case h18a8 => simp only [List.getElem?_toArray]; rfl
    case f18a8 => kernel_rfl
    case r18a8 => kernel_rfl
    case w18a8 => rfl
    case y18a8 => (intro u hu; (go_simp) <;> with_reducible rfl)
    try simp only [Act.put, List.setIfInBounds_toArray, List.set_cons_zero, List.set_cons_succ]
    refine wpAnyH_take (i := 19) (oi := ?o19a8) (v := ?v19a8) ?h19a8 (by kernel_rfl) ?f19a8 ?r19a8 (fun _ _ _ h => h) (Or.inl ⟨?w19a8, ?y19a8⟩) (by assumption) ?t19a8
    case h19a8 => simp only [List.getElem?_toArray]; rfl
    case f19a8 => kernel_rfl
    case r19a8 => kernel_rfl
    case w19a8 => rfl
    case y19a8 => (intro u hu; (have h1 := sx u (Ext.trans HH.out hu); go_simp) <;> with_reducible rfl)
    try simp only [Act.put, List.setIfInBounds_toArray, List.set_cons_zero, List.set_cons_succ]
    refine wpAnyH_take (i := 20) (oi := ?o20a8) (v := ?v20a8) ?h20a8 (by kernel_rfl) ?f20a8 ?r20a8 (fun _ _ _ h => h) (Or.inl ⟨?w20a8, ?y20a8⟩) (by assumption) ?t20a8
    case h20a8 => simp only [List.getElem?_toArray]; rfl
    case f20a8 => kernel_rfl
    case r20a8 => kernel_rfl
    case w20a8 => rfl
    case y20a8 => (intro u hu; (go_simp) <;> with_reducible rfl)
    try simp only [Act.put, List.setIfInBounds_toArray, List.set_cons_zero, List.set_cons_succ]
    refine wpAnyH_take (i := 21) (oi := ?o21a8) (v := ?v21a8) ?h21a8 (by kernel_rfl) ?f21a8 ?r21a8 (fun _ _ _ h => h) (Or.inl ⟨?w21a8, ?y21a8⟩) (by assumption) ?t21a8
    case h21a8 => simp only [List.getElem?_toArray]; rfl
    case f21a8 => kernel_rfl
    case r21a8 => kernel_rfl
    case w21a8 => rfl
    case y21a8 => (intro u hu; (go_simp) <;> with_reducible rfl)
    try simp only [Act.put, List.setIfInBounds_toArray, List.set_cons_zero, List.set_cons_succ]
    refine wpAnyH_take (i := 22) (oi := ?o22a8) (v := ?v22a8) ?h22a8 (by kernel_rfl) ?f22a8 ?r22a8 (fun _ _ _ h => h) (Or.inl ⟨?w22a8, ?y22a8⟩) (by assumption) ?t22a8
    case h22a8 => simp only [List.getElem?_toArray]; rfl
    case f22a8 => kernel_rfl
    case r22a8 => kernel_rfl
    case w22a8 => rfl
    case y22a8 => (intro u hu; (go_simp) <;> with_reducible rfl)
    try simp only [Act.put, List.setIfInBounds_toArray, List.set_cons_zero, List.set_cons_succ]
    refine wpAnyH_take (i := 23) (oi := ?o23a8) (v := ?v23a8) ?h23a8 (by kernel_rfl) ?f23a8 ?r23a8 (fun _ _ _ h => h) (Or.inl ⟨?w23a8, ?y23a8⟩) (by assumption) ?t23a8
    case h23a8 => simp only [List.getElem?_toArray]; rfl
    case f23a8 => kernel_rfl
    case r23a8 => kernel_rfl
    case w23a8 => rfl
    case y23a8 => (intro u hu; (go_simp) <;> with_reducible rfl)
    try simp only [Act.put, List.setIfInBounds_toArray, List.set_cons_zero, List.set_cons_succ]
    refine wpAnyH_take (i := 24) (oi := ?o24a8) (v := ?v24a8) ?h24a8 (by kernel_rfl) ?f24a8 ?r24a8 (fun _ _ _ h => h) (Or.inl ⟨?w24a8, ?y24a8⟩) (by assumption) ?t24a8
    case h24a8 => simp only [List.getElem?_toArray]; rfl
    case f24a8 => kernel_rfl
    case r24a8 => kernel_rfl
    case w24a8 => rfl
    case y24a8 => (intro u hu; (go_simp) <;> with_reducible rfl)
    try simp only [Act.put, List.setIfInBounds_toArray, List.set_cons_zero, List.set_cons_succ]
    refine wpAnyH_take (i := 25) (oi := ?o25a8) (v := ?v25a8) ?h25a8 (by kernel_rfl) ?f25a8 ?r25a8 (fun _ _ _ h => h) (Or.inl ⟨?w25a8, ?y25a8⟩) (by assumption) ?t25a8
    case h25a8 => simp only [List.getElem?_toArray]; rfl
    case f25a8 => kernel_rfl
    case r25a8 => kernel_rfl
    case w25a8 => rfl
    case y25a8 => (intro u hu; (go_simp) <;> with_reducible rfl)
    try simp only [Act.put, List.setIfInBounds_toArray, List.set_cons_zero, List.set_cons_succ]
    refine wpAnyH_take (i := 26) (oi := ?o26a8) (v := ?v26a8) ?h26a8 (by kernel_rfl) ?f26a8 ?r26a8 (fun _ _ _ h => h) (Or.inl ⟨?w26a8, ?y26a8⟩) (by assumption) ?t26a8
    case h26a8 => simp only [List.getElem?_toArray]; rfl
    case f26a8 => kernel_rfl
    case r26a8 => kernel_rfl
    case w26a8 => rfl
    case y26a8 => (intro u hu; (go_simp) <;> with_reducible rfl)
    try simp only [Act.put, List.setIfInBounds_toArray, List.set_cons_zero, List.set_cons_succ]
    refine wpAnyH_take (i := 27) (oi := ?o27a8) (v := ?v27a8) ?h27a8 (by kernel_rfl) ?f27a8 ?r27a8 (fun _ _ _ h => h) (Or.inl ⟨?w27a8, ?y27a8⟩) (by assumption) ?t27a8
    case h27a8 => simp only [List.getElem?_toArray]; rfl
    case f27a8 => kernel_rfl
    case r27a8 => kernel_rfl
    case w27a8 => rfl
    case y27a8 => (intro u hu; (go_simp) <;> with_reducible rfl)
    try simp only [Act.put, List.setIfInBounds_toArray, List.set_cons_zero, List.set_cons_succ]
    refine wpAnyH_take (i := 28) (oi := ?o28a8) (v := ?v28a8) ?h28a8 (by kernel_rfl) ?f28a8 ?r28a8 (fun _ _ _ h => h) (Or.inl ⟨?w28a8, ?y28a8⟩) (by assumption) ?t28a8
    case h28a8 => simp only [List.getElem?_toArray]; rfl
    case f28a8 => kernel_rfl
    case r28a8 => kernel_rfl
    case w28a8 => rfl
    case y28a8 => (intro u hu; (go_simp) <;> with_reducible rfl)
    try simp only [Act.put, List.setIfInBounds_toArray, List.set_cons_zero, List.set_cons_succ]
    refine wpAnyH_take (i := 29) (oi := ?o29a8) (v := ?v29a8) ?h29a8 (by kernel_rfl) ?f29a8 ?r29a8 (fun _ _ _ h => h) (Or.inl ⟨?w29a8, ?y29a8⟩) (by assumption) ?t29a8
    case h29a8 => simp only [List.getElem?_toArray]; rfl
    case f29a8 => kernel_rfl
    case r29a8 => kernel_rfl
    case w29a8 => rfl
    case y29a8 => (intro u hu; (go_simp) <;> with_reducible rfl)
    try simp only [Act.put, List.setIfInBounds_toArray, List.set_cons_zero, List.set_cons_succ]
    refine wpAnyH_done (by kernel_rfl) ?_ _
    refine NoPanic.normal ?_
    replace HB := HB.out.trans (Below.mono HH.out HB.out.size)
    clear hH HH
    go_wp2
    go_ret
    exact ⟨rfl, HB⟩
end Go.Proofs.Ytiijnghlllapoaa
