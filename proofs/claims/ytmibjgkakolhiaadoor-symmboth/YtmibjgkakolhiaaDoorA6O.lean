/-
  What aead's Open does. No statement of the seat is proved here.
-/
import Derived.Test.YtmibjgkakolhiaaDoorPk35
import Derived.Test.YtmibjgkakolhiaaDoorPk4
namespace Go.Proofs.YtmibjgkakolhiaaDoor
open Go.RowKit

set_option maxRecDepth 8000 in
set_option maxHeartbeats 4000000 in
theorem open_short (key nonce : List Int) (aa : Option Addr) (la ca : Nat) (ad : List Int) (ab : Option Addr) (lb cb : Nat) (box : List Int) (w : World) (hrb : Rd w ab lb cb box) (hlt : lb < 16) :
    Calls Tryd.prog 47 #[(.agg (List.map (Value.int .u8) key).toArray), (.agg (List.map (Value.int .u8) nonce).toArray), .slice aa la ca, .slice ab lb cb] w fun e w' => ∃ a' m c X E, e = .returned (.tuple #[.slice a' m c, .int .i64 E]) ∧ Hid (E = er6 key nonce ad box) ∧ Hid (X = op6 key nonce ad box) ∧ Hid (Rd w' a' m c X) ∧ Fr w.heap.size a' m ∧ Below w.heap.size w w' := by
  have HE : Hid (er6 key nonce ad box = 7) := by unfold Hid er6; rw [if_pos (by rw [hrb.hlen]; exact hlt)]
  have hlt' : (lb : Int) < 16 := by omega
  clear hrb
  go_enter Tryd.func47, Tryd.ntmps47
  go_wp2
  go_ret2
  refine ⟨none, 0, 0, [], 7, rfl, HE.out.symm, ?_, Rd.nil _ _ _ (fun _ => rfl), fr_nil, bel2 _ _ _⟩
  unfold Hid
  rw [op6_not _ _ _ _ (by rw [HE.out]; decide)]

set_option maxRecDepth 8000 in
set_option maxHeartbeats 8000000 in
theorem open_long (key nonce : List Int) (aa : Option Addr) (la ca : Nat) (ad : List Int) (b off lb cb : Nat) (box : List Int) (hk : Bn 32 key) (hn : Bn 12 nonce) (w : World) (hra : Rd w aa la ca ad) (hrb : Rd w (some ⟨b, off, none⟩) lb cb box) (ha : la ≤ 140737488351232) (hm : lb ≤ 140737488351248) (hge : ¬ lb < 16) :
    Calls Tryd.prog 47 #[(.agg (List.map (Value.int .u8) key).toArray), (.agg (List.map (Value.int .u8) nonce).toArray), .slice aa la ca, .slice (some ⟨b, off, none⟩) lb cb] w fun e w' => ∃ a' m c X E, e = .returned (.tuple #[.slice a' m c, .int .i64 E]) ∧ Hid (E = er6 key nonce ad box) ∧ Hid (X = op6 key nonce ad box) ∧ Hid (Rd w' a' m c X) ∧ Fr w.heap.size a' m ∧ Below w.heap.size w w' := by
  have HRA : Hid (Rd w aa la ca ad) := hra
  have HRB : Hid (Rd w (some ⟨b, off, none⟩) lb cb box) := hrb
  have hle := hrb.hle
  have HLB : Hid (box.length = lb) := hrb.hlen
  clear hra hrb
  obtain ⟨n, hnn⟩ : ∃ n, n = lb - 16 := ⟨_, rfl⟩
  have HLN : Hid (lb = n + 16) := by unfold Hid; omega
  have hnl : n ≤ lb := by omega
  have hn1 : (lb : Int) - 16 = (n : Int) := by omega
  have hn2 : (n : Int) ≤ cb := by omega
  have hn4 : (n : Int) ≤ lb := by omega
  have hn3 : (n : Int).toNat = n := by omega
  have hn5 : ¬ cb = n := by omega
  have hn6 : lb - n = 16 := by omega
  have hge' : ¬ (lb : Int) < 16 := by omega
  have HER : Hid (er6 key nonce ad box = if tt6 key nonce ad (box.take n) = box.drop n then 0 else 8) := by unfold Hid er6; rw [HLB.out, if_neg hge, ← hnn]
  have HOP : Hid (er6 key nonce ad box = 0 → op6 key nonce ad box = ap key 1 nonce (box.take n)) := fun h => by unfold op6; rw [if_pos h, HLB.out, ← hnn]
  clear hnn
  have HK : Hid (Bn 32 key) := hk
  have HN : Hid (Bn 12 nonce) := hn
  clear hk hn
  obtain ⟨_, _, hiK⟩ := bn32_cells HK.out
  obtain ⟨_, _, hiN⟩ := bn12_cells HN.out
  go_enter Tryd.func47, Tryd.ntmps47
  go_upto_region 1 with fail
  have AK : Hid (Ar ((w.alloc (.cells (List.map (Value.int .u8) key).toArray 27)).alloc (.cells (List.map (Value.int .u8) nonce).toArray 84)) w.heap.size 32 (List.map (Value.int .u8) key)) := (ar_box w _ 32 HK.out.map_len _).later (bel1 _ _)
  have AN : Hid (Ar ((w.alloc (.cells (List.map (Value.int .u8) key).toArray 27)).alloc (.cells (List.map (Value.int .u8) nonce).toArray 84)) (w.heap.size + 1) 12 (List.map (Value.int .u8) nonce)) := by have := (ar_box (w.alloc (.cells (List.map (Value.int .u8) key).toArray 27)) _ 12 HN.out.map_len 84); simpa [Hid] using this
  have HB : Hid (Below w.heap.size w ((w.alloc (.cells (List.map (Value.int .u8) key).toArray 27)).alloc (.cells (List.map (Value.int .u8) nonce).toArray 84))) := bel2 _ _ _
  generalize ((w.alloc (.cells (List.map (Value.int .u8) key).toArray 27)).alloc (.cells (List.map (Value.int .u8) nonce).toArray 84)) = W0 at *
  have k1 : w.heap.size < w.heap.size + 1 := by omega
  generalize hq1 : w.heap.size + 1 = q1 at *
  replace HRA : Hid (Rd W0 aa la ca ad) := HRA.out.below HB.out
  replace HRB : Hid (Rd W0 (some ⟨b, off, none⟩) lb cb box) := HRB.out.below HB.out
  go_upto_region 4 with fail
  go_cut [11] from 18 (fun tv wx => ∃ (b : Nat) (X : List Int), tv = .pointer (some ⟨b, 0, none⟩) ∧ Hid (X = tt6 key nonce ad (box.take n)) ∧ Hid (Bn 16 X) ∧ Hid (Ar wx b 16 (List.map (Value.int .u8) X)) ∧ W0.heap.size ≤ b ∧ Hid (Below W0.heap.size W0 wx))
  case first =>
    refine wp_region_noPanic ?_
    refine wp_region_held_drew (S := Ext W0) (by kernel_rfl) (Ext.refl _).drew (fun hH => ?_)
    change wpAnyH _ _ _ _ _ _ #[false, false, false, false, false, false, false, false, false] _ _
    refine wpAnyH_take (i := 0) (oi := ?o0d1) (v := .agg (List.map (Value.int .u8) key).toArray) ?h0d1 (by kernel_rfl) ?f0d1 ?r0d1 (fun _ _ _ h => h) ?y0d1 (by assumption) ?t0d1
    case h0d1 => simp only [List.getElem?_toArray]; rfl
    case f0d1 => kernel_rfl
    case r0d1 => kernel_rfl
    case y0d1 => exact yieldsIf_load_mid (by rfl) 27 (.tmp 4) rfl w.heap.size 0 rfl (List.map (Value.int .u8) key) _ (fun u hu => range_later hu AK.out.rng) Tryd.underlying27 rfl hiK
    try simp only [Act.put, List.setIfInBounds_toArray, List.set_cons_zero, List.set_cons_succ]
    refine wpAnyH_take (i := 1) (oi := ?o1d1) (v := .agg (List.map (Value.int .u8) nonce).toArray) ?h1d1 (by kernel_rfl) ?f1d1 ?r1d1 (fun _ _ _ h => h) ?y1d1 (by assumption) ?t1d1
    case h1d1 => simp only [List.getElem?_toArray]; rfl
    case f1d1 => kernel_rfl
    case r1d1 => kernel_rfl
    case y1d1 => exact yieldsIf_load_mid (by rfl) 84 (.tmp 5) rfl q1 0 rfl (List.map (Value.int .u8) nonce) _ (fun u hu => range_later hu AN.out.rng) Tryd.underlying84 rfl hiN
    try simp only [Act.put, List.setIfInBounds_toArray, List.set_cons_zero, List.set_cons_succ]
    refine wpAnyH_take (i := 2) (oi := ?o2d1) (v := ?v2d1) ?h2d1 (by kernel_rfl) ?f2d1 ?r2d1 (fun _ _ _ h => h) (Or.inl ⟨?w2d1, ?y2d1⟩) (by assumption) ?t2d1
    case h2d1 => simp only [List.getElem?_toArray]; rfl
    case f2d1 => kernel_rfl
    case r2d1 => kernel_rfl
    case w2d1 => rfl
    case y2d1 => (intro u hu; (go_simp) <;> with_reducible rfl)
    try simp only [Act.put, List.setIfInBounds_toArray, List.set_cons_zero, List.set_cons_succ]
    refine wpAnyH_take (i := 3) (oi := ?o3d1) (v := ?v3d1) ?h3d1 (by kernel_rfl) ?f3d1 ?r3d1 (fun _ _ _ h => h) (Or.inl ⟨?w3d1, ?y3d1⟩) (by assumption) ?t3d1
    case h3d1 => simp only [List.getElem?_toArray]; rfl
    case f3d1 => kernel_rfl
    case r3d1 => kernel_rfl
    case w3d1 => rfl
    case y3d1 => (intro u hu; (go_simp) <;> with_reducible rfl)
    try simp only [Act.put, List.setIfInBounds_toArray, List.set_cons_zero, List.set_cons_succ]
    refine wpAnyH_take (i := 4) (oi := ?o4d1) (v := ?v4d1) ?h4d1 (by kernel_rfl) ?f4d1 ?r4d1 (fun _ _ _ h => h) (Or.inl ⟨?w4d1, ?y4d1⟩) (by assumption) ?t4d1
    case h4d1 => simp only [List.getElem?_toArray]; rfl
    case f4d1 => kernel_rfl
    case r4d1 => kernel_rfl
    case w4d1 => rfl
    case y4d1 => (intro u hu; (go_simp) <;> with_reducible rfl)
    try simp only [Act.put, List.setIfInBounds_toArray, List.set_cons_zero, List.set_cons_succ]
    refine wpAnyH_take (i := 5) (oi := ?o5d1) (v := ?v5d1) ?h5d1 (by kernel_rfl) ?f5d1 ?r5d1 (fun _ _ _ h => h) (Or.inl ⟨?w5d1, ?y5d1⟩) (by assumption) ?t5d1
    case h5d1 => simp only [List.getElem?_toArray]; rfl
    case f5d1 => kernel_rfl
    case r5d1 => kernel_rfl
    case w5d1 => rfl
    case y5d1 => (intro u hu; (go_simp) <;> with_reducible rfl)
    try simp only [Act.put, List.setIfInBounds_toArray, List.set_cons_zero, List.set_cons_succ]
    generalize W0.drew = y0 at *
    refine wpAnyH_ready (rs := [6, 7]) (by kernel_rfl) (by simp) ?_
    refine AllReadyH.cons (o := ?od2) ?hd2 (fun K hK => ?sd2) (AllReadyH.cons (o := ?od3) ?hd3 (fun K hK => ?sd3) AllReadyH.nil)
    case hd2 => simp only [List.getElem?_toArray]; rfl
    case hd3 => simp only [List.getElem?_toArray]; rfl
    case sd2 =>
      go_simp
      refine (tagof_c key nonce aa la ca ad (some ⟨b, off, none⟩) n cb (box.take n) HK.out HN.out _ (HRA.out.below hH) ((HRB.out.cut n hnl).below hH) (by omega)).mono ?_
      rintro e V5 ⟨TG, rfl, HTG, HTn, hb⟩
      refine hK.out _ _ (hH.trans hb) (fun hH' => ?_)
      clear hK K hH
      have hH := hH'
      clear hH'
      try simp only [List.setIfInBounds_toArray, List.set]
      clear hb
      refine wpAnyH_ready (rs := [7]) (by kernel_rfl) (by simp) ?_
      refine AllReadyH.cons (o := ?od6) ?hd6 (fun K hK => ?sd6) AllReadyH.nil
      case hd6 => simp only [List.getElem?_toArray]; rfl
      case sd6 =>
        go_simp
        have hLw : W0.heap.size ≤ V5.heap.size := hH.size
        have hD : Hid ((V5.alloc (.cells #[.int .u8 0, .int .u8 0, .int .u8 0, .int .u8 0, .int .u8 0, .int .u8 0, .int .u8 0, .int .u8 0, .int .u8 0, .int .u8 0, .int .u8 0, .int .u8 0, .int .u8 0, .int .u8 0, .int .u8 0, .int .u8 0] 96)).there V5.heap.size 0 16) := there_new V5 16 #[.int .u8 0, .int .u8 0, .int .u8 0, .int .u8 0, .int .u8 0, .int .u8 0, .int .u8 0, .int .u8 0, .int .u8 0, .int .u8 0, .int .u8 0, .int .u8 0, .int .u8 0, .int .u8 0, .int .u8 0, .int .u8 0] rfl 96
        have hb := bel1 V5 (.cells #[.int .u8 0, .int .u8 0, .int .u8 0, .int .u8 0, .int .u8 0, .int .u8 0, .int .u8 0, .int .u8 0, .int .u8 0, .int .u8 0, .int .u8 0, .int .u8 0, .int .u8 0, .int .u8 0, .int .u8 0, .int .u8 0] 96)
        refine hK.out _ _ (hH.trans hb) (fun hH' => ?_)
        clear hK K hH
        have hH := hH'
        clear hH'
        try simp only [List.setIfInBounds_toArray, List.set]
        obtain ⟨x8, hnew⟩ : ∃ v, v = V5.alloc (.cells #[.int .u8 0, .int .u8 0, .int .u8 0, .int .u8 0, .int .u8 0, .int .u8 0, .int .u8 0, .int .u8 0, .int .u8 0, .int .u8 0, .int .u8 0, .int .u8 0, .int .u8 0, .int .u8 0, .int .u8 0, .int .u8 0] 96) := ⟨_, rfl⟩
        obtain ⟨bw, hbw⟩ : ∃ v, v = V5.heap.size := ⟨_, rfl⟩
        rw [← hnew] at hb hD hH ⊢
        rw [← hbw] at hD hLw ⊢
        clear hb hnew hbw
        obtain ⟨hlenw, honew, hiw⟩ := bn16_cells HTn.out
        obtain ⟨csw, hcsw⟩ : ∃ cs, cs = (List.map (Value.int .u8) TG) := ⟨_, rfl⟩
        rw [← hcsw] at hlenw honew hiw ⊢
        have HCW : Hid (csw = (List.map (Value.int .u8) TG)) := hcsw
        clear hcsw
        refine wpAnyH_ready (rs := [8]) (by kernel_rfl) (by simp) ?_
        refine AllReadyH.cons (o := ?od9) ?hd9 (fun K hK => ?_) AllReadyH.nil
        case hd9 => simp only [List.getElem?_toArray]; rfl
        refine wp_store_mid 96 (.tmp 11) (.tmp 24) rfl bw 0 csw.toArray rfl rfl (by simpa [hlenw] using hD.out) (by simpa using hiw) (all_oneCell_toArray honew) ?_
        refine hK.out _ _ (below_setCells _ (by omega) _ _ _ hH) (fun hH' => ?_)
        clear hK K hH
        have hH := hH'
        clear hH'
        try simp only [List.setIfInBounds_toArray, List.set]
        refine wpAnyH_done (by kernel_rfl) ?_ _
        refine NoPanic.normal ?_
        go_wp2_with fail
        go_meet
        case rel => exact ⟨bw, TG, rfl, HTG, HTn.out, by rw [← HCW.out]; exact Ar.all_set hD.out hlenw, hLw, hH⟩
    case sd3 =>
      go_simp
      have hLw : W0.heap.size ≤ y0.heap.size := hH.size
      have hD : Hid ((y0.alloc (.cells #[.int .u8 0, .int .u8 0, .int .u8 0, .int .u8 0, .int .u8 0, .int .u8 0, .int .u8 0, .int .u8 0, .int .u8 0, .int .u8 0, .int .u8 0, .int .u8 0, .int .u8 0, .int .u8 0, .int .u8 0, .int .u8 0] 96)).there y0.heap.size 0 16) := there_new y0 16 #[.int .u8 0, .int .u8 0, .int .u8 0, .int .u8 0, .int .u8 0, .int .u8 0, .int .u8 0, .int .u8 0, .int .u8 0, .int .u8 0, .int .u8 0, .int .u8 0, .int .u8 0, .int .u8 0, .int .u8 0, .int .u8 0] rfl 96
      have hb := bel1 y0 (.cells #[.int .u8 0, .int .u8 0, .int .u8 0, .int .u8 0, .int .u8 0, .int .u8 0, .int .u8 0, .int .u8 0, .int .u8 0, .int .u8 0, .int .u8 0, .int .u8 0, .int .u8 0, .int .u8 0, .int .u8 0, .int .u8 0] 96)
      refine hK.out _ _ (hH.trans hb) (fun hH' => ?_)
      clear hK K hH
      have hH := hH'
      clear hH'
      try simp only [List.setIfInBounds_toArray, List.set]
      obtain ⟨x11, hnew⟩ : ∃ v, v = y0.alloc (.cells #[.int .u8 0, .int .u8 0, .int .u8 0, .int .u8 0, .int .u8 0, .int .u8 0, .int .u8 0, .int .u8 0, .int .u8 0, .int .u8 0, .int .u8 0, .int .u8 0, .int .u8 0, .int .u8 0, .int .u8 0, .int .u8 0] 96) := ⟨_, rfl⟩
      obtain ⟨bw, hbw⟩ : ∃ v, v = y0.heap.size := ⟨_, rfl⟩
      rw [← hnew] at hb hD hH ⊢
      rw [← hbw] at hD hLw ⊢
      clear hb hnew hbw
      refine wpAnyH_ready (rs := [6]) (by kernel_rfl) (by simp) ?_
      refine AllReadyH.cons (o := ?od12) ?hd12 (fun K hK => ?sd12) AllReadyH.nil
      case hd12 => simp only [List.getElem?_toArray]; rfl
      case sd12 =>
        go_simp
        refine (tagof_c key nonce aa la ca ad (some ⟨b, off, none⟩) n cb (box.take n) HK.out HN.out _ (HRA.out.below hH) ((HRB.out.cut n hnl).below hH) (by omega)).mono ?_
        rintro e V14 ⟨TG, rfl, HTG, HTn, hb⟩
        refine hK.out _ _ (hH.trans hb) (fun hH' => ?_)
        clear hK K hH
        have hH := hH'
        clear hH'
        try simp only [List.setIfInBounds_toArray, List.set]
        replace hD : Hid (V14.there bw 0 16) := there_later hb hD.out
        clear hb
        obtain ⟨hlenw, honew, hiw⟩ := bn16_cells HTn.out
        obtain ⟨csw, hcsw⟩ : ∃ cs, cs = (List.map (Value.int .u8) TG) := ⟨_, rfl⟩
        rw [← hcsw] at hlenw honew hiw ⊢
        have HCW : Hid (csw = (List.map (Value.int .u8) TG)) := hcsw
        clear hcsw
        refine wpAnyH_ready (rs := [8]) (by kernel_rfl) (by simp) ?_
        refine AllReadyH.cons (o := ?od15) ?hd15 (fun K hK => ?_) AllReadyH.nil
        case hd15 => simp only [List.getElem?_toArray]; rfl
        refine wp_store_mid 96 (.tmp 11) (.tmp 24) rfl bw 0 csw.toArray rfl rfl (by simpa [hlenw] using hD.out) (by simpa using hiw) (all_oneCell_toArray honew) ?_
        refine hK.out _ _ (below_setCells _ (by omega) _ _ _ hH) (fun hH' => ?_)
        clear hK K hH
        have hH := hH'
        clear hH'
        try simp only [List.setIfInBounds_toArray, List.set]
        refine wpAnyH_done (by kernel_rfl) ?_ _
        refine NoPanic.normal ?_
        go_wp2_with fail
        go_meet
        case rel => exact ⟨bw, TG, rfl, HTG, HTn.out, by rw [← HCW.out]; exact Ar.all_set hD.out hlenw, hLw, hH⟩
  case rest =>
    obtain ⟨b11, TG, rfl, HTG, HTn, A11, -, hX⟩ := hcut
    generalize wc = W5 at *
    have hb := hX.out
    clear hX
    replace AK : Hid (Ar W5 w.heap.size 32 (List.map (Value.int .u8) key)) := AK.out.later hb
    replace AN : Hid (Ar W5 q1 12 (List.map (Value.int .u8) nonce)) := AN.out.later hb
    replace HRA : Hid (Rd W5 aa la ca ad) := HRA.out.below hb
    replace HRB : Hid (Rd W5 (some ⟨b, off, none⟩) lb cb box) := HRB.out.below hb
    replace HB : Hid (Below w.heap.size w W5) := HB.out.trans (hb.mono HB.out.size)
    clear hb
    have HRD : Hid (Rd W5 (some ⟨b, off + n, none⟩) 16 (cb - n) (box.drop n)) := HRB.out.from n hnl 16 (cb - n) hn6.symm (by omega)
    obtain ⟨bv, HBV⟩ : ∃ bv, Hid (bv = decide (TG = box.drop n)) := ⟨_, rfl⟩
    go_upto_region 5 with fail
    refine wp_region_noPanic ?_
    refine wp_region_held_drew (S := Ext W5) (by kernel_rfl) (Ext.refl _).drew (fun hH => ?_)
    change wpAnyH _ _ _ _ _ _ #[false, false, false, false, false, false] _ _
    refine wpAnyH_take (i := 0) (oi := ?o0f) (v := ?v0f) ?h0f (by kernel_rfl) ?f0f ?r0f (fun _ _ _ h => h) (Or.inl ⟨?w0f, ?y0f⟩) (by assumption) ?t0f
    case h0f => simp only [List.getElem?_toArray]; rfl
    case f0f => kernel_rfl
    case r0f => kernel_rfl
    case w0f => rfl
    case y0f => (intro u hu; (go_simp) <;> with_reducible rfl)
    try simp only [Act.put, List.setIfInBounds_toArray, List.set_cons_zero, List.set_cons_succ]
    refine wpAnyH_take (i := 1) (oi := ?o1f) (v := ?v1f) ?h1f (by kernel_rfl) ?f1f ?r1f (fun _ _ _ h => h) (Or.inl ⟨?w1f, ?y1f⟩) (by assumption) ?t1f
    case h1f => simp only [List.getElem?_toArray]; rfl
    case f1f => kernel_rfl
    case r1f => kernel_rfl
    case w1f => rfl
    case y1f => (intro u hu; (go_simp) <;> with_reducible rfl)
    try simp only [Act.put, List.setIfInBounds_toArray, List.set_cons_zero, List.set_cons_succ]
    refine wpAnyH_take (i := 2) (oi := ?o2f) (v := ?v2f) ?h2f (by kernel_rfl) ?f2f ?r2f (fun _ _ _ h => h) (Or.inl ⟨?w2f, ?y2f⟩) (by assumption) ?t2f
    case h2f => simp only [List.getElem?_toArray]; rfl
    case f2f => kernel_rfl
    case r2f => kernel_rfl
    case w2f => rfl
    case y2f => (intro u hu; (go_simp) <;> with_reducible rfl)
    try simp only [Act.put, List.setIfInBounds_toArray, List.set_cons_zero, List.set_cons_succ]
    refine wpAnyH_take (i := 3) (oi := ?o3f) (v := ?v3f) ?h3f (by kernel_rfl) ?f3f ?r3f (fun _ _ _ h => h) (Or.inl ⟨?w3f, ?y3f⟩) (by assumption) ?t3f
    case h3f => simp only [List.getElem?_toArray]; rfl
    case f3f => kernel_rfl
    case r3f => kernel_rfl
    case w3f => rfl
    case y3f => (intro u hu; (go_simp) <;> with_reducible rfl)
    try simp only [Act.put, List.setIfInBounds_toArray, List.set_cons_zero, List.set_cons_succ]
    refine wpAnyH_ready (rs := [4]) (by kernel_rfl) (by simp) ?_
    refine AllReadyH.cons (o := ?o4f) ?h4f (fun K hK => ?_) AllReadyH.nil
    case h4f => simp only [List.getElem?_toArray]; rfl
    go_simp
    refine (same_any (some ⟨b11, 0, none⟩) 16 16 TG (some ⟨b, off + n, none⟩) 16 (cb - n) (box.drop n) _ ((A11.out.later hH).rd_all HTn.out.byt 16 (by decide)) ((HRD.out.below hH)) (by decide) (by decide)).mono ?_
    rintro e V5 ⟨rfl, hb⟩
    rw [← HBV.out]
    refine hK.out _ _ (hH.trans hb) (fun hH' => ?_)
    clear hK K hH
    have hH := hH'
    clear hH'
    try simp only [List.setIfInBounds_toArray, List.set]
    refine wpAnyH_take (i := 5) (oi := ?o5f) (v := ?v5f) ?h5f (by kernel_rfl) ?f5f ?r5f (fun _ _ _ h => h) (Or.inl ⟨?w5f, ?y5f⟩) (by assumption) ?t5f
    case h5f => simp only [List.getElem?_toArray]; rfl
    case f5f => kernel_rfl
    case r5f => kernel_rfl
    case w5f => rfl
    case y5f => (intro u hu; (go_simp) <;> with_reducible rfl)
    try simp only [Act.put, List.setIfInBounds_toArray, List.set_cons_zero, List.set_cons_succ]
    refine wpAnyH_done (by kernel_rfl) ?_ _
    refine NoPanic.normal ?_
    replace hb : Below W5.heap.size W5 V5 := (Below.refl _ _).drew.trans (hb.mono (Nat.le_refl _))
    replace AK : Hid (Ar V5 w.heap.size 32 (List.map (Value.int .u8) key)) := AK.out.later hb
    replace AN : Hid (Ar V5 q1 12 (List.map (Value.int .u8) nonce)) := AN.out.later hb
    replace HRB : Hid (Rd V5 (some ⟨b, off, none⟩) lb cb box) := HRB.out.below hb
    replace HB : Hid (Below w.heap.size w V5) := HB.out.trans (hb.mono HB.out.size)
    clear hb
    clear hH A11 HRA HRD
    cases bv
    · have HNE : Hid (er6 key nonce ad box = 8) := by
        unfold Hid
        rw [HER.out, ← HTG.out, if_neg (of_decide_eq_false HBV.out.symm)]
      clear HBV HER HOP
      go_wp2
      go_ret2
      refine ⟨none, 0, 0, [], 8, rfl, HNE.out.symm, ?_, Rd.nil _ _ _ (fun _ => rfl), fr_nil, HB.out⟩
      unfold Hid
      rw [op6_not _ _ _ _ (by rw [HNE.out]; decide)]
    · have HEQ : Hid (er6 key nonce ad box = 0) := by
        unfold Hid
        rw [HER.out, ← HTG.out, if_pos (of_decide_eq_true HBV.out.symm)]
      clear HBV HER
      go_upto_region 7 with fail
      refine wp_region_noPanic ?_
      refine wp_region_held_drew (S := Ext V5) (by kernel_rfl) (Ext.refl _).drew (fun hH => ?_)
      change wpAnyH _ _ _ _ _ _ #[false, false, false, false, false, false, false, false] _ _
      refine wpAnyH_take (i := 0) (oi := ?o0s) (v := .agg (List.map (Value.int .u8) key).toArray) ?h0s (by kernel_rfl) ?f0s ?r0s (fun _ _ _ h => h) ?y0s (by assumption) ?t0s
      case h0s => simp only [List.getElem?_toArray]; rfl
      case f0s => kernel_rfl
      case r0s => kernel_rfl
      case y0s => exact yieldsIf_load_mid (by rfl) 27 (.tmp 4) rfl w.heap.size 0 rfl (List.map (Value.int .u8) key) _ (fun u hu => range_later hu AK.out.rng) Tryd.underlying27 rfl hiK
      try simp only [Act.put, List.setIfInBounds_toArray, List.set_cons_zero, List.set_cons_succ]
      refine wpAnyH_take (i := 1) (oi := ?o1s) (v := .agg (List.map (Value.int .u8) nonce).toArray) ?h1s (by kernel_rfl) ?f1s ?r1s (fun _ _ _ h => h) ?y1s (by assumption) ?t1s
      case h1s => simp only [List.getElem?_toArray]; rfl
      case f1s => kernel_rfl
      case r1s => kernel_rfl
      case y1s => exact yieldsIf_load_mid (by rfl) 84 (.tmp 5) rfl q1 0 rfl (List.map (Value.int .u8) nonce) _ (fun u hu => range_later hu AN.out.rng) Tryd.underlying84 rfl hiN
      try simp only [Act.put, List.setIfInBounds_toArray, List.set_cons_zero, List.set_cons_succ]
      refine wpAnyH_take (i := 2) (oi := ?o2s) (v := ?v2s) ?h2s (by kernel_rfl) ?f2s ?r2s (fun _ _ _ h => h) (Or.inl ⟨?w2s, ?y2s⟩) (by assumption) ?t2s
      case h2s => simp only [List.getElem?_toArray]; rfl
      case f2s => kernel_rfl
      case r2s => kernel_rfl
      case w2s => rfl
      case y2s => (intro u hu; (go_simp) <;> with_reducible rfl)
      try simp only [Act.put, List.setIfInBounds_toArray, List.set_cons_zero, List.set_cons_succ]
      refine wpAnyH_take (i := 3) (oi := ?o3s) (v := ?v3s) ?h3s (by kernel_rfl) ?f3s ?r3s (fun _ _ _ h => h) (Or.inl ⟨?w3s, ?y3s⟩) (by assumption) ?t3s
      case h3s => simp only [List.getElem?_toArray]; rfl
      case f3s => kernel_rfl
      case r3s => kernel_rfl
      case w3s => rfl
      case y3s => (intro u hu; (go_simp) <;> with_reducible rfl)
      try simp only [Act.put, List.setIfInBounds_toArray, List.set_cons_zero, List.set_cons_succ]
      refine wpAnyH_take (i := 4) (oi := ?o4s) (v := ?v4s) ?h4s (by kernel_rfl) ?f4s ?r4s (fun _ _ _ h => h) (Or.inl ⟨?w4s, ?y4s⟩) (by assumption) ?t4s
      case h4s => simp only [List.getElem?_toArray]; rfl
      case f4s => kernel_rfl
      case r4s => kernel_rfl
      case w4s => rfl
      case y4s => (intro u hu; (go_simp) <;> with_reducible rfl)
      try simp only [Act.put, List.setIfInBounds_toArray, List.set_cons_zero, List.set_cons_succ]
      refine wpAnyH_ready (rs := [5]) (by kernel_rfl) (by simp) ?_
      refine AllReadyH.cons (o := ?o5s) ?h5s (fun K hK => ?_) AllReadyH.nil
      case h5s => simp only [List.getElem?_toArray]; rfl
      go_simp
      refine (apply_o key 1 nonce (some ⟨b, off, none⟩) n cb (box.take n) HK.out ⟨by decide, by decide⟩ HN.out _ ((HRB.out.cut n hnl).below hH) (by omega)).mono ?_
      rintro e V7 ⟨gx, X, rfl, HX, OX, hgx, hb⟩
      have HFR : Hid (w.heap.size ≤ gx) := Nat.le_trans HB.out.size (Nat.le_trans hH.size hgx)
      clear hgx
      refine hK.out _ _ (hH.trans hb) (fun hH' => ?_)
      clear hK K hH
      have hH := hH'
      clear hH'
      try simp only [List.setIfInBounds_toArray, List.set]
      refine wpAnyH_take (i := 6) (oi := ?o6s) (v := ?v6s) ?h6s (by kernel_rfl) ?f6s ?r6s (fun _ _ _ h => h) (Or.inl ⟨?w6s, ?y6s⟩) (by assumption) ?t6s
      case h6s => simp only [List.getElem?_toArray]; rfl
      case f6s => kernel_rfl
      case r6s => kernel_rfl
      case w6s => rfl
      case y6s => (intro u hu; (go_simp) <;> with_reducible rfl)
      try simp only [Act.put, List.setIfInBounds_toArray, List.set_cons_zero, List.set_cons_succ]
      refine wpAnyH_take (i := 7) (oi := ?o7s) (v := ?v7s) ?h7s (by kernel_rfl) ?f7s ?r7s (fun _ _ _ h => h) (Or.inl ⟨?w7s, ?y7s⟩) (by assumption) ?t7s
      case h7s => simp only [List.getElem?_toArray]; rfl
      case f7s => kernel_rfl
      case r7s => kernel_rfl
      case w7s => rfl
      case y7s => (intro u hu; (go_simp) <;> with_reducible rfl)
      try simp only [Act.put, List.setIfInBounds_toArray, List.set_cons_zero, List.set_cons_succ]
      refine wpAnyH_done (by kernel_rfl) ?_ _
      refine NoPanic.normal ?_
      replace hb : Below V5.heap.size V5 V7 := (Below.refl _ _).drew.trans (hb.mono (Nat.le_refl _))
      replace HB : Hid (Below w.heap.size w V7) := HB.out.trans (hb.mono HB.out.size)
      clear hb
      clear hH
      go_wp2
      go_ret2
      exact ⟨_, n, n, X, 0, rfl, HEQ.out.symm, by unfold Hid; rw [HOP.out HEQ.out, HX.out], OX.out.rd, fr_at HFR.out, HB.out⟩
set_option maxRecDepth 8000 in
theorem open_f (key nonce : List Int) (aa : Option Addr) (la ca : Nat) (ad : List Int) (ab : Option Addr) (lb cb : Nat) (box : List Int) (hk : Bn 32 key) (hn : Bn 12 nonce) (w : World) (hra : Rd w aa la ca ad) (hrb : Rd w ab lb cb box) (ha : la ≤ 140737488351232) (hm : lb ≤ 140737488351248) :
    Calls Tryd.prog 47 #[(.agg (List.map (Value.int .u8) key).toArray), (.agg (List.map (Value.int .u8) nonce).toArray), .slice aa la ca, .slice ab lb cb] w fun e w' => ∃ a' m c X E, e = .returned (.tuple #[.slice a' m c, .int .i64 E]) ∧ Hid (E = er6 key nonce ad box) ∧ Hid (X = op6 key nonce ad box) ∧ Hid (Rd w' a' m c X) ∧ Fr w.heap.size a' m ∧ Below w.heap.size w w' := by
  by_cases h : lb < 16
  · exact open_short key nonce aa la ca ad ab lb cb box w hrb h
  · obtain ⟨b, off, rfl, -⟩ := hrb.cell (by omega)
    exact open_long key nonce aa la ca ad b off lb cb box hk hn w hra hrb ha hm h
set_option maxRecDepth 8000 in
theorem open_c (key nonce : List Int) (aa : Option Addr) (la ca : Nat) (ad : List Int) (ab : Option Addr) (lb cb : Nat) (box : List Int) (hk : Bn 32 key) (hn : Bn 12 nonce) (w : World) (hra : Rd w aa la ca ad) (hrb : Rd w ab lb cb box) (ha : la ≤ 140737488351232) (hm : lb ≤ 140737488351248) :
    Calls Tryd.prog 47 #[(.agg (List.map (Value.int .u8) key).toArray), (.agg (List.map (Value.int .u8) nonce).toArray), .slice aa la ca, .slice ab lb cb] w fun e w' => ∃ a' m c X E, e = .returned (.tuple #[.slice a' m c, .int .i64 E]) ∧ Hid (E = er6 key nonce ad box) ∧ Hid (X = op6 key nonce ad box) ∧ Hid (Rd w' a' m c X) ∧ Below w.heap.size w w' := by
  refine (open_f key nonce aa la ca ad ab lb cb box hk hn w hra hrb ha hm).mono ?_
  rintro e w' ⟨a', m, c, X, E, rfl, h1, h2, h3, -, h4⟩
  exact ⟨a', m, c, X, E, rfl, h1, h2, h3, h4⟩
end Go.Proofs.YtmibjgkakolhiaaDoor
