/-
  ChachaApplies' walk. No statement of the seat is proved here.
-/
import Derived.Test.YtiijnghlllapoaaDoorRApp
import Derived.Test.YtiijnghlllapoaaDoorQKn
namespace Go.Proofs.YtiijnghlllapoaaDoor
open Go.RowKit

set_option maxRecDepth 8000 in
set_option maxHeartbeats 8000000 in
theorem chachaApplies_walk (key : List Int) (count : Int) (nonce : List Int) (a : Option Addr) (len cap : Nat) (text : List Int) (lg : Int) (en : Bool) (hk : Bn 32 key) (hc : 0 ≤ count ∧ count < 4294967296) (hn : Bn 12 nonce) (hm : len ≤ 140737488351232) (hi : -9223372036854775808 ≤ lg ∧ lg ≤ 9223372036854775807) (w : World) (hr : Rd w a len cap text) (hg : Gr w) :
    Calls Tryd.prog 4 #[(.agg (List.map (Value.int .u8) key).toArray), .int .u32 count, (.agg (List.map (Value.int .u8) nonce).toArray), .slice a len cap, .int .i64 lg, .bool en] w fun e w' => e = .returned (.bool true) ∧ Below w.heap.size w w' := by
  have HK : Hid (Bn 32 key) := hk
  have HN : Hid (Bn 12 nonce) := hn
  have HWC : Hid (W32 count) := hc
  obtain ⟨c0, c1⟩ := hc
  clear hk hn
  obtain ⟨_, _, hiK⟩ := bn32_cells HK.out
  obtain ⟨_, _, hiN⟩ := bn12_cells HN.out
  go_enter Tryd.func4, Tryd.ntmps4
  go_upto_region 1 with fail
  have AK : Hid (Ar ((w.alloc (.cells (List.map (Value.int .u8) key).toArray 22)).alloc (.cells (List.map (Value.int .u8) nonce).toArray 24)) w.heap.size 32 (List.map (Value.int .u8) key)) := (ar_box w _ 32 HK.out.map_len _).later (bel1 _ _)
  have AN : Hid (Ar ((w.alloc (.cells (List.map (Value.int .u8) key).toArray 22)).alloc (.cells (List.map (Value.int .u8) nonce).toArray 24)) (w.heap.size + 1) 12 (List.map (Value.int .u8) nonce)) := by have := ar_box (w.alloc (.cells (List.map (Value.int .u8) key).toArray 22)) _ 12 HN.out.map_len 24; simpa [Hid] using this
  have HB : Hid (Below w.heap.size w ((w.alloc (.cells (List.map (Value.int .u8) key).toArray 22)).alloc (.cells (List.map (Value.int .u8) nonce).toArray 24))) := bel2 _ _ _
  generalize (w.alloc (.cells (List.map (Value.int .u8) key).toArray 22)).alloc (.cells (List.map (Value.int .u8) nonce).toArray 24) = W0 at *
  have k1 : w.heap.size < w.heap.size + 1 := by omega
  generalize w.heap.size + 1 = q1 at *
  have HG : Hid (Gr W0) := hg.later HB.out
  have HR : Hid (Rd W0 a len cap text) := hr.below HB.out
  clear hg hr
  go_upto_if 16 with fail
  go_cut [3] from 15 (fun v wx => ∃ (a' : Option Addr) (len' cap' : Nat) (l' : List Int), v = .slice a' len' cap' ∧ Hid (Rd wx a' len' cap' l') ∧ len' ≤ 140737488351232 ∧ Hid (Ext W0 wx))
  case first =>
    by_cases h3 : lg.tmod 3 = 0
    · go_wp2_with fail
      refine (pick_any lg 400 hi (by decide) _).mono ?_
      rintro e w' ⟨m, rfl, p0, p1, hw⟩
      rw [hw]
      clear hw w'
      obtain ⟨m, rfl⟩ := Int.eq_ofNat_of_zero_le p0
      go_wp2_with fail
      refine (bytes_c m lg (by omega) _).mono ?_
      rintro e V1 ⟨g1, t, rfl, HT0, HT1, hb⟩
      go_wp2_with fail
      go_meet
      exact ⟨_, m, m, t, rfl, Rd.owns HT0.out HT1.out, by omega, hb⟩
    · go_wp2_with fail
      go_meet
      exact ⟨a, len, cap, text, rfl, HR, hm, Ext.refl _⟩
  case rest =>
    obtain ⟨a', len', cap', l', rfl, HR', hm', HE⟩ := hcut
    replace AK : Hid (Ar wc w.heap.size 32 (List.map (Value.int .u8) key)) := AK.out.later HE.out
    replace AN : Hid (Ar wc q1 12 (List.map (Value.int .u8) nonce)) := AN.out.later HE.out
    replace HB : Hid (Below w.heap.size w wc) := HB.out.trans (Below.mono HE.out HB.out.size)
    replace HG : Hid (Gr wc) := HG.out.later HE.out
    clear HR HE hm
    go_upto_if 21 with fail
    go_cut [1] from 22 (fun v wx => ∃ d : Int, v = .int .u32 d ∧ 0 ≤ d ∧ d < 4294967296 ∧ wx = wc)
    case first =>
      cases en
      · go_wp2_with fail
        go_meet
        exact ⟨count, rfl, c0, c1, rfl⟩
      · go_wp2_with fail
        go_meet
        exact ⟨_, rfl, by omega, by omega, rfl⟩
    case rest =>
      obtain ⟨d, rfl, d0, d1, hwc⟩ := hcut
      rw [hwc]
      clear hwc
      go_wp2_with fail
      refine (few_all a' len' cap' l' _ HR'.out hm').mono ?_
      rintro e V2 ⟨a2, c2, rfl, hR2, hb⟩
      replace AK : Hid (Ar V2 w.heap.size 32 (List.map (Value.int .u8) key)) := AK.out.later hb
      replace AN : Hid (Ar V2 q1 12 (List.map (Value.int .u8) nonce)) := AN.out.later hb
      replace HB : Hid (Below w.heap.size w V2) := HB.out.trans (Below.mono hb HB.out.size)
      replace HG : Hid (Gr V2) := HG.out.later hb
      replace HR' : Hid (Rd V2 a' len' cap' l') := HR'.out.below hb
      have HR2 : Hid (Rd V2 a2 len' c2 l') := hR2
      clear hb hR2
      have st : ∀ u, Ext V2 u → (convert 31 9 (.slice a' len' cap')).run Tryd.prog u = .ok (.string (strOfNums l')) u := fun u hu => str_of (HR'.out.below hu)
      have so : ∀ u, Ext V2 u → (convert 31 9 (.slice a2 len' c2)).run Tryd.prog u = .ok (.string (strOfNums l')) u := fun u hu => str_of (HR2.out.below hu)
      go_upto_region 6 with fail
      refine wp_region_noPanic ?_
      refine wp_region_held_drew (S := Ext V2) (by kernel_rfl) (Ext.refl _).drew (fun hH => ?_)
      change wpAnyH _ _ _ _ _ _ #[false, false, false, false, false, false, false, false, false, false, false, false, false, false, false, false, false, false, false, false, false, false, false, false] _ _
      refine wpAnyH_ready (rs := [0]) (by kernel_rfl) (by simp) ?_
      refine AllReadyH.cons (o := ?o0p) ?h0p (fun K hK => ?_) AllReadyH.nil
      case h0p => simp only [List.getElem?_toArray]; rfl
      go_simp
      refine (known4_any _).mono ?_
      rintro e V3 ⟨rfl, hb⟩
      refine hK.out _ _ (hH.trans hb) (fun hH' => ?_)
      clear hK K hH
      have hH := hH'
      clear hH'
      try simp only [List.setIfInBounds_toArray, List.set]
      clear hb
      refine wpAnyH_take (i := 1) (oi := ?o1p) (v := ?v1p) ?h1p (by kernel_rfl) ?f1p ?r1p (fun _ _ _ h => h) (Or.inl ⟨?w1p, ?y1p⟩) (by assumption) ?t1p
      case h1p => simp only [List.getElem?_toArray]; rfl
      case f1p => kernel_rfl
      case r1p => kernel_rfl
      case w1p => rfl
      case y1p => (intro u hu; (go_simp) <;> with_reducible rfl)
      try simp only [Act.put, List.setIfInBounds_toArray, List.set_cons_zero, List.set_cons_succ]
      refine wpAnyH_take (i := 2) (oi := ?o2p) (v := .agg (List.map (Value.int .u8) key).toArray) ?h2p (by kernel_rfl) ?f2p ?r2p (fun _ _ _ h => h) ?y2p (by assumption) ?t2p
      case h2p => simp only [List.getElem?_toArray]; rfl
      case f2p => kernel_rfl
      case r2p => kernel_rfl
      case y2p => exact yieldsIf_load_mid (by rfl) 22 (.tmp 6) rfl w.heap.size 0 rfl (List.map (Value.int .u8) key) _ (fun u hu => range_later hu AK.out.rng) Tryd.underlying22 rfl hiK
      try simp only [Act.put, List.setIfInBounds_toArray, List.set_cons_zero, List.set_cons_succ]
      refine wpAnyH_take (i := 3) (oi := ?o3p) (v := ?v3p) ?h3p (by kernel_rfl) ?f3p ?r3p (fun _ _ _ h => h) (Or.inl ⟨?w3p, ?y3p⟩) (by assumption) ?t3p
      case h3p => simp only [List.getElem?_toArray]; rfl
      case f3p => kernel_rfl
      case r3p => kernel_rfl
      case w3p => rfl
      case y3p => (intro u hu; (go_simp) <;> with_reducible rfl)
      try simp only [Act.put, List.setIfInBounds_toArray, List.set_cons_zero, List.set_cons_succ]
      refine wpAnyH_take (i := 4) (oi := ?o4p) (v := .agg (List.map (Value.int .u8) nonce).toArray) ?h4p (by kernel_rfl) ?f4p ?r4p (fun _ _ _ h => h) ?y4p (by assumption) ?t4p
      case h4p => simp only [List.getElem?_toArray]; rfl
      case f4p => kernel_rfl
      case r4p => kernel_rfl
      case y4p => exact yieldsIf_load_mid (by rfl) 24 (.tmp 8) rfl q1 0 rfl (List.map (Value.int .u8) nonce) _ (fun u hu => range_later hu AN.out.rng) Tryd.underlying24 rfl hiN
      try simp only [Act.put, List.setIfInBounds_toArray, List.set_cons_zero, List.set_cons_succ]
      refine wpAnyH_take (i := 5) (oi := ?o5p) (v := ?v5p) ?h5p (by kernel_rfl) ?f5p ?r5p (fun _ _ _ h => h) (Or.inl ⟨?w5p, ?y5p⟩) (by assumption) ?t5p
      case h5p => simp only [List.getElem?_toArray]; rfl
      case f5p => kernel_rfl
      case r5p => kernel_rfl
      case w5p => rfl
      case y5p => (intro u hu; (go_simp) <;> with_reducible rfl)
      try simp only [Act.put, List.setIfInBounds_toArray, List.set_cons_zero, List.set_cons_succ]
      refine wpAnyH_take (i := 8) (oi := ?o8p) (v := .agg (List.map (Value.int .u8) key).toArray) ?h8p (by kernel_rfl) ?f8p ?r8p (fun _ _ _ h => h) ?y8p (by assumption) ?t8p
      case h8p => simp only [List.getElem?_toArray]; rfl
      case f8p => kernel_rfl
      case r8p => kernel_rfl
      case y8p => exact yieldsIf_load_mid (by rfl) 22 (.tmp 6) rfl w.heap.size 0 rfl (List.map (Value.int .u8) key) _ (fun u hu => range_later hu AK.out.rng) Tryd.underlying22 rfl hiK
      try simp only [Act.put, List.setIfInBounds_toArray, List.set_cons_zero, List.set_cons_succ]
      refine wpAnyH_take (i := 9) (oi := ?o9p) (v := ?v9p) ?h9p (by kernel_rfl) ?f9p ?r9p (fun _ _ _ h => h) (Or.inl ⟨?w9p, ?y9p⟩) (by assumption) ?t9p
      case h9p => simp only [List.getElem?_toArray]; rfl
      case f9p => kernel_rfl
      case r9p => kernel_rfl
      case w9p => rfl
      case y9p => (intro u hu; (go_simp) <;> with_reducible rfl)
      try simp only [Act.put, List.setIfInBounds_toArray, List.set_cons_zero, List.set_cons_succ]
      refine wpAnyH_take (i := 10) (oi := ?o10p) (v := .agg (List.map (Value.int .u8) nonce).toArray) ?h10p (by kernel_rfl) ?f10p ?r10p (fun _ _ _ h => h) ?y10p (by assumption) ?t10p
      case h10p => simp only [List.getElem?_toArray]; rfl
      case f10p => kernel_rfl
      case r10p => kernel_rfl
      case y10p => exact yieldsIf_load_mid (by rfl) 24 (.tmp 8) rfl q1 0 rfl (List.map (Value.int .u8) nonce) _ (fun u hu => range_later hu AN.out.rng) Tryd.underlying24 rfl hiN
      try simp only [Act.put, List.setIfInBounds_toArray, List.set_cons_zero, List.set_cons_succ]
      refine wpAnyH_take (i := 11) (oi := ?o11p) (v := ?v11p) ?h11p (by kernel_rfl) ?f11p ?r11p (fun _ _ _ h => h) (Or.inl ⟨?w11p, ?y11p⟩) (by assumption) ?t11p
      case h11p => simp only [List.getElem?_toArray]; rfl
      case f11p => kernel_rfl
      case r11p => kernel_rfl
      case w11p => rfl
      case y11p => (intro u hu; (go_simp) <;> with_reducible rfl)
      try simp only [Act.put, List.setIfInBounds_toArray, List.set_cons_zero, List.set_cons_succ]
      refine wpAnyH_ready (rs := [6]) (by kernel_rfl) (by simp) ?_
      refine AllReadyH.cons (o := ?o6p) ?h6p (fun K hK => ?_) AllReadyH.nil
      case h6p => simp only [List.getElem?_toArray]; rfl
      go_simp
      refine (apply_o key d nonce a2 len' c2 l' HK.out ⟨d0, d1⟩ HN.out _ (HR2.out.below hH) hm').mono ?_
      rintro e V4 ⟨g4, X, rfl, HX, OX, -, hb⟩
      refine hK.out _ _ (hH.trans hb) (fun hH' => ?_)
      clear hK K hH
      have hH := hH'
      clear hH'
      try simp only [List.setIfInBounds_toArray, List.set]
      have HH : Hid (Ext V2 V4) := hH
      refine wpAnyH_mono (S' := Ext V4) (fun u hu => Ext.trans hH hu) ?_
      clear hH hb
      have hH := Ext.refl V4
      have sx : ∀ u, Ext V4 u → (convert 31 9 (.slice (some ⟨g4, 0, none⟩) len' len')).run Tryd.prog u = .ok (.string (strOfNums X)) u := fun u hu => str_of (OX.out.rd.below hu)
      refine wpAnyH_take (i := 7) (oi := ?o7p) (v := ?v7p) ?h7p (by kernel_rfl) ?f7p ?r7p (fun _ _ _ h => h) (Or.inl ⟨?w7p, ?y7p⟩) (by assumption) ?t7p
      case h7p => simp only [List.getElem?_toArray]; rfl
      case f7p => kernel_rfl
      case r7p => kernel_rfl
      case w7p => rfl
      case y7p => (intro u hu; (have h1 := sx u hu; go_simp) <;> with_reducible rfl)
      try simp only [Act.put, List.setIfInBounds_toArray, List.set_cons_zero, List.set_cons_succ]
      clear sx OX
      refine wpAnyH_ready (rs := [12]) (by kernel_rfl) (by simp) ?_
      refine AllReadyH.cons (o := ?o12p) ?h12p (fun K hK => ?_) AllReadyH.nil
      case h12p => simp only [List.getElem?_toArray]; rfl
      go_simp
      refine (rapply_c key d nonce a' len' cap' l' HK.out ⟨d0, d1⟩ HN.out _ (HR'.out.below (Ext.trans HH.out hH)) hm' (HG.out.later (Ext.trans HH.out hH))).mono ?_
      rintro e V5 ⟨a5, c5, X2, rfl, HX2, HR5, hb⟩
      refine hK.out _ _ (Ext.trans hH hb) (fun hH' => ?_)
      clear hK K hH
      have hH := hH'
      clear hH'
      try simp only [List.setIfInBounds_toArray, List.set]
      have e : X2 = X := HX2.out.trans HX.out.symm
      subst e
      clear HX HX2
      replace HH : Hid (Ext V2 V5) := Ext.trans HH.out hH
      refine wpAnyH_mono (S' := Ext V5) (fun u hu => Ext.trans hH hu) ?_
      clear hH hb
      have hH := Ext.refl V5
      have sx : ∀ u, Ext V5 u → (convert 31 9 (.slice a5 len' c5)).run Tryd.prog u = .ok (.string (strOfNums X2)) u := fun u hu => str_of (HR5.out.below hu)
      refine wpAnyH_take (i := 13) (oi := ?o13p) (v := ?v13p) ?h13p (by kernel_rfl) ?f13p ?r13p (fun _ _ _ h => h) (Or.inl ⟨?w13p, ?y13p⟩) (by assumption) ?t13p
      case h13p => simp only [List.getElem?_toArray]; rfl
      case f13p => kernel_rfl
      case r13p => kernel_rfl
      case w13p => rfl
      case y13p => (intro u hu; (have h1 := sx u hu; go_simp) <;> with_reducible rfl)
      try simp only [Act.put, List.setIfInBounds_toArray, List.set_cons_zero, List.set_cons_succ]
      clear sx HR5
      refine wpAnyH_take (i := 14) (oi := ?o14p) (v := ?v14p) ?h14p (by kernel_rfl) ?f14p ?r14p (fun _ _ _ h => h) (Or.inl ⟨?w14p, ?y14p⟩) (by assumption) ?t14p
      case h14p => simp only [List.getElem?_toArray]; rfl
      case f14p => kernel_rfl
      case r14p => kernel_rfl
      case w14p => rfl
      case y14p => (intro u hu; (go_simp) <;> with_reducible rfl)
      try simp only [Act.put, List.setIfInBounds_toArray, List.set_cons_zero, List.set_cons_succ]
      refine wpAnyH_take (i := 15) (oi := ?o15p) (v := ?v15p) ?h15p (by kernel_rfl) ?f15p ?r15p (fun _ _ _ h => h) (Or.inl ⟨?w15p, ?y15p⟩) (by assumption) ?t15p
      case h15p => simp only [List.getElem?_toArray]; rfl
      case f15p => kernel_rfl
      case r15p => kernel_rfl
      case w15p => rfl
      case y15p => (intro u hu; (go_simp) <;> with_reducible rfl)
      try simp only [Act.put, List.setIfInBounds_toArray, List.set_cons_zero, List.set_cons_succ]
      refine wpAnyH_take (i := 16) (oi := ?o16p) (v := ?v16p) ?h16p (by kernel_rfl) ?f16p ?r16p (fun _ _ _ h => h) (Or.inl ⟨?w16p, ?y16p⟩) (by assumption) ?t16p
      case h16p => simp only [List.getElem?_toArray]; rfl
      case f16p => kernel_rfl
      case r16p => kernel_rfl
      case w16p => rfl
      case y16p => (intro u hu; (go_simp) <;> with_reducible rfl)
      try simp only [Act.put, List.setIfInBounds_toArray, List.set_cons_zero, List.set_cons_succ]
      refine wpAnyH_take (i := 17) (oi := ?o17p) (v := ?v17p) ?h17p (by kernel_rfl) ?f17p ?r17p (fun _ _ _ h => h) (Or.inl ⟨?w17p, ?y17p⟩) (by assumption) ?t17p
      case h17p => simp only [List.getElem?_toArray]; rfl
      case f17p => kernel_rfl
      case r17p => kernel_rfl
      case w17p => rfl
      case y17p => (intro u hu; (go_simp) <;> with_reducible rfl)
      try simp only [Act.put, List.setIfInBounds_toArray, List.set_cons_zero, List.set_cons_succ]
      refine wpAnyH_take (i := 18) (oi := ?o18p) (v := ?v18p) ?h18p (by kernel_rfl) ?f18p ?r18p (fun _ _ _ h => h) (Or.inl ⟨?w18p, ?y18p⟩) (by assumption) ?t18p
      case h18p => simp only [List.getElem?_toArray]; rfl
      case f18p => kernel_rfl
      case r18p => kernel_rfl
      case w18p => rfl
      case y18p => (intro u hu; (have h1 := so u (Ext.trans HH.out hu); go_simp) <;> with_reducible rfl)
      try simp only [Act.put, List.setIfInBounds_toArray, List.set_cons_zero, List.set_cons_succ]
      refine wpAnyH_take (i := 19) (oi := ?o19p) (v := ?v19p) ?h19p (by kernel_rfl) ?f19p ?r19p (fun _ _ _ h => h) (Or.inl ⟨?w19p, ?y19p⟩) (by assumption) ?t19p
      case h19p => simp only [List.getElem?_toArray]; rfl
      case f19p => kernel_rfl
      case r19p => kernel_rfl
      case w19p => rfl
      case y19p => (intro u hu; (go_simp) <;> with_reducible rfl)
      try simp only [Act.put, List.setIfInBounds_toArray, List.set_cons_zero, List.set_cons_succ]
      refine wpAnyH_take (i := 20) (oi := ?o20p) (v := ?v20p) ?h20p (by kernel_rfl) ?f20p ?r20p (fun _ _ _ h => h) (Or.inl ⟨?w20p, ?y20p⟩) (by assumption) ?t20p
      case h20p => simp only [List.getElem?_toArray]; rfl
      case f20p => kernel_rfl
      case r20p => kernel_rfl
      case w20p => rfl
      case y20p => (intro u hu; (have h1 := st u (Ext.trans HH.out hu); go_simp) <;> with_reducible rfl)
      try simp only [Act.put, List.setIfInBounds_toArray, List.set_cons_zero, List.set_cons_succ]
      refine wpAnyH_take (i := 21) (oi := ?o21p) (v := ?v21p) ?h21p (by kernel_rfl) ?f21p ?r21p (fun _ _ _ h => h) (Or.inl ⟨?w21p, ?y21p⟩) (by assumption) ?t21p
      case h21p => simp only [List.getElem?_toArray]; rfl
      case f21p => kernel_rfl
      case r21p => kernel_rfl
      case w21p => rfl
      case y21p => (intro u hu; (go_simp) <;> with_reducible rfl)
      try simp only [Act.put, List.setIfInBounds_toArray, List.set_cons_zero, List.set_cons_succ]
      refine wpAnyH_take (i := 22) (oi := ?o22p) (v := ?v22p) ?h22p (by kernel_rfl) ?f22p ?r22p (fun _ _ _ h => h) (Or.inl ⟨?w22p, ?y22p⟩) (by assumption) ?t22p
      case h22p => simp only [List.getElem?_toArray]; rfl
      case f22p => kernel_rfl
      case r22p => kernel_rfl
      case w22p => rfl
      case y22p => (intro u hu; (go_simp) <;> with_reducible rfl)
      try simp only [Act.put, List.setIfInBounds_toArray, List.set_cons_zero, List.set_cons_succ]
      refine wpAnyH_take (i := 23) (oi := ?o23p) (v := ?v23p) ?h23p (by kernel_rfl) ?f23p ?r23p (fun _ _ _ h => h) (Or.inl ⟨?w23p, ?y23p⟩) (by assumption) ?t23p
      case h23p => simp only [List.getElem?_toArray]; rfl
      case f23p => kernel_rfl
      case r23p => kernel_rfl
      case w23p => rfl
      case y23p => (intro u hu; (go_simp) <;> with_reducible rfl)
      try simp only [Act.put, List.setIfInBounds_toArray, List.set_cons_zero, List.set_cons_succ]
      refine wpAnyH_done (by kernel_rfl) ?_ _
      refine NoPanic.normal ?_
      replace HB := HB.out.trans (Below.mono HH.out HB.out.size)
      clear hH HH
      go_wp2
      go_ret
      exact ⟨rfl, HB⟩
end Go.Proofs.YtiijnghlllapoaaDoor
