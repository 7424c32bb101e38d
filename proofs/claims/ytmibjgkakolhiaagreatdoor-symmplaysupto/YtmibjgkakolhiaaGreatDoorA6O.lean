/-
 What aead's Open does. No statement of the seat is proved here.
-/
import Derived.Test.YtmibjgkakolhiaaGreatDoorPk1
import Derived.Test.YtmibjgkakolhiaaGreatDoorPk28
import Derived.Test.YtmibjgkakolhiaaGreatDoorPk13
namespace Go.Proofs.YtmibjgkakolhiaaGreatDoor
open Go.RowKit

set_option maxRecDepth 8000 in
set_option maxHeartbeats 4000000 in
theorem open_short (key nonce : List Int) (aa : Option Addr) (la ca : Nat) (ad : List Int) (ab : Option Addr) (lb cb : Nat) (box : List Int) (w : World) (hrb : Rd w ab lb cb box) (hlt : lb < 16) :
  Calls Tryz.prog 47 #[(.agg (List.map (Value.int .u8) key).toArray), (.agg (List.map (Value.int .u8) nonce).toArray), .slice aa la ca, .slice ab lb cb] w fun e w' => ∃ a' m c X E, e = .returned (.tuple #[.slice a' m c, .int .i64 E]) ∧ Hid (E = er6 key nonce ad box) ∧ Hid (X = op6 key nonce ad box) ∧ Hid (Rd w' a' m c X) ∧ Fr w.heap.size a' m ∧ Below w.heap.size w w' := by
 have HE : Hid (er6 key nonce ad box = 7) := by unfold Hid er6; rw [if_pos (by rw [hrb.hlen]; exact hlt)]
 have hlt' : (lb : Int) < 16 := by omega
 clear hrb
 go_enter Tryz.func47, Tryz.ntmps47
 go_wp2
 go_ret2
 refine ⟨none, 0, 0, [], 7, rfl, HE.out.symm, ?_, Rd.nil _ _ _ (fun _ => rfl), fr_nil, bel2 _ _ _⟩
 unfold Hid
 rw [op6_not _ _ _ _ (by rw [HE.out]; decide)]

set_option maxRecDepth 8000 in
set_option maxHeartbeats 8000000 in
theorem open_long (key nonce : List Int) (aa : Option Addr) (la ca : Nat) (ad : List Int) (b off lb cb : Nat) (box : List Int) (hk : Bn 32 key) (hn : Bn 12 nonce) (w : World) (hra : Rd w aa la ca ad) (hrb : Rd w (some ⟨b, off, none⟩) lb cb box) (ha : la ≤ 140737488351232) (hm : lb ≤ 140737488351248) (hge : ¬ lb < 16) :
  Calls Tryz.prog 47 #[(.agg (List.map (Value.int .u8) key).toArray), (.agg (List.map (Value.int .u8) nonce).toArray), .slice aa la ca, .slice (some ⟨b, off, none⟩) lb cb] w fun e w' => ∃ a' m c X E, e = .returned (.tuple #[.slice a' m c, .int .i64 E]) ∧ Hid (E = er6 key nonce ad box) ∧ Hid (X = op6 key nonce ad box) ∧ Hid (Rd w' a' m c X) ∧ Fr w.heap.size a' m ∧ Below w.heap.size w w' := by
 have HRA : Hid (Rd w aa la ca ad) := hra
 have HRB : Hid (Rd w (some ⟨b, off, none⟩) lb cb box) := hrb
 have hle := hrb.hle
 have HLB : Hid (box.length = lb) := hrb.hlen
 clear hra hrb
 obtain ⟨n, hnn⟩ : ∃ n, n = lb - 16 := ⟨_, rfl⟩
 have HLN : Hid (lb = n + 16) := by unfold Hid; omega
 have hnl : n ≤ lb := by omega
 have hn1 : (lb : Int) - 16 = (n : Int) := by omega
 have hn2 : (n : Int) ≤ cb := by omega
 have hn4 : (n : Int) ≤ lb := by omega
 have hn3 : (n : Int).toNat = n := by omega
 have hn5 : ¬ cb = n := by omega
 have hn6 : lb - n = 16 := by omega
 have hge' : ¬ (lb : Int) < 16 := by omega
 have HER : Hid (er6 key nonce ad box = if tt6 key nonce ad (box.take n) = box.drop n then 0 else 8) := by unfold Hid er6; rw [HLB.out, if_neg hge, ← hnn]
 have HOP : Hid (er6 key nonce ad box = 0 → op6 key nonce ad box = ap key 1 nonce (box.take n)) := fun h => by unfold op6; rw [if_pos h, HLB.out, ← hnn]
 clear hnn
 have HK : Hid (Bn 32 key) := hk
 have HN : Hid (Bn 12 nonce) := hn
 clear hk hn
 obtain ⟨_, _, hiK⟩ := bn32_cells HK.out
 obtain ⟨_, _, hiN⟩ := bn12_cells HN.out
 go_enter Tryz.func47, Tryz.ntmps47
 go_upto_region 1 with fail
 have AK : Hid (Ar ((w.alloc (.cells (List.map (Value.int .u8) key).toArray 33)).alloc (.cells (List.map (Value.int .u8) nonce).toArray 81)) w.heap.size 32 (List.map (Value.int .u8) key)) := (ar_box w _ 32 HK.out.map_len _).later (bel1 _ _)
 have AN : Hid (Ar ((w.alloc (.cells (List.map (Value.int .u8) key).toArray 33)).alloc (.cells (List.map (Value.int .u8) nonce).toArray 81)) (w.heap.size + 1) 12 (List.map (Value.int .u8) nonce)) := by have := (ar_box (w.alloc (.cells (List.map (Value.int .u8) key).toArray 33)) _ 12 HN.out.map_len 81); simpa [Hid] using this
 have HB : Hid (Below w.heap.size w ((w.alloc (.cells (List.map (Value.int .u8) key).toArray 33)).alloc (.cells (List.map (Value.int .u8) nonce).toArray 81))) := bel2 _ _ _
 generalize ((w.alloc (.cells (List.map (Value.int .u8) key).toArray 33)).alloc (.cells (List.map (Value.int .u8) nonce).toArray 81)) = W0 at *
 have k1 : w.heap.size < w.heap.size + 1 := by omega
 generalize hq1 : w.heap.size + 1 = q1 at *
 replace HRA := hidp (HRA.out.below HB.out)
 replace HRB := hidp (HRB.out.below HB.out)
 go_upto_region 4 with fail
 go_cut [11] from 18 (fun tv wx => ∃ (b : Nat) (X : List Int), tv = .pointer (some ⟨b, 0, none⟩) ∧ Hid (X = tt6 key nonce ad (box.take n)) ∧ Hid (Bn 16 X) ∧ Hid (Ar wx b 16 (List.map (Value.int .u8) X)) ∧ W0.heap.size ≤ b ∧ Hid (Below W0.heap.size W0 wx))
 case first =>
  refine wp_region_noPanic ?_
  refine wp_region_held_drew (S := Ext W0) (by kernel_rfl) (Ext.refl _).drew (fun hH => ?_)
  change wpAnyH _ _ _ _ _ _ #[false, false, false, false, false, false, false, false, false] _ _
  refine tkl 0 (.agg (List.map (Value.int .u8) key).toArray) ?_ (hy := by exact yieldsIf_load_mid (by rfl) 33 (.tmp 4) rfl w.heap.size 0 rfl (List.map (Value.int .u8) key) _ (fun u hu => range_later hu AK.out.rng) Tryz.underlying33 rfl hiK)
  try simp only [Act.put, List.setIfInBounds_toArray, List.set_cons_zero, List.set_cons_succ]
  refine tkl 1 (.agg (List.map (Value.int .u8) nonce).toArray) ?_ (hy := by exact yieldsIf_load_mid (by rfl) 81 (.tmp 5) rfl q1 0 rfl (List.map (Value.int .u8) nonce) _ (fun u hu => range_later hu AN.out.rng) Tryz.underlying81 rfl hiN)
  try simp only [Act.put, List.setIfInBounds_toArray, List.set_cons_zero, List.set_cons_succ]
  refine tk 2 ?_
  try simp only [Act.put, List.setIfInBounds_toArray, List.set_cons_zero, List.set_cons_succ]
  refine tk 3 ?_
  try simp only [Act.put, List.setIfInBounds_toArray, List.set_cons_zero, List.set_cons_succ]
  refine tk 4 ?_
  try simp only [Act.put, List.setIfInBounds_toArray, List.set_cons_zero, List.set_cons_succ]
  refine tk 5 ?_
  try simp only [Act.put, List.setIfInBounds_toArray, List.set_cons_zero, List.set_cons_succ]
  generalize W0.drew = y0 at *
  refine wpAnyH_ready (rs := [6, 7]) (by kernel_rfl) (by simp) ?_
  refine AllReadyH.cons (o := ?od2) ?hd2 (fun K hK => ?sd2) (AllReadyH.cons (o := ?od3) ?hd3 (fun K hK => ?sd3) AllReadyH.nil)
  case hd2 => simp only [List.getElem?_toArray]; rfl
  case hd3 => simp only [List.getElem?_toArray]; rfl
  case sd2 =>
   go_simp
   refine (tagof_c key nonce aa la ca ad (some ⟨b, off, none⟩) n cb (box.take n) HK.out HN.out _ (HRA.out.below hH) ((HRB.out.cut n hnl).below hH) (by omega)).mono ?_
   rintro e V5 ⟨TG, rfl, HTG, HTn, hb⟩
   refine hK.out _ _ (hH.trans hb) (fun hH' => ?_)
   clear hK K hH; have hH := hH'; clear hH'; try simp only [List.setIfInBounds_toArray, List.set]
   clear hb
   refine rdy 7 (fun K hK => ?sd6)
   case sd6 =>
    go_simp
    have hLw : W0.heap.size ≤ V5.heap.size := hH.size
    have hD : Hid ((V5.alloc (.cells zb16 99)).there V5.heap.size 0 16) := there_new V5 16 zb16 rfl 99
    have hb := bel1 V5 (.cells zb16 99)
    refine hK.out _ _ (hH.trans hb) (fun hH' => ?_)
    clear hK K hH; have hH := hH'; clear hH'; try simp only [List.setIfInBounds_toArray, List.set]
    obtain ⟨x8, hnew⟩ : ∃ v, v = V5.alloc (.cells zb16 99) := ⟨_, rfl⟩
    obtain ⟨bw, hbw⟩ : ∃ v, v = V5.heap.size := ⟨_, rfl⟩
    rw [← hnew] at hb hD hH ⊢
    rw [← hbw] at hD hLw ⊢
    clear hb hnew hbw
    obtain ⟨hlenw, honew, hiw⟩ := bn16_cells HTn.out
    obtain ⟨csw, hcsw⟩ : ∃ cs, cs = (List.map (Value.int .u8) TG) := ⟨_, rfl⟩
    rw [← hcsw] at hlenw honew hiw ⊢
    have HCW : Hid (csw = (List.map (Value.int .u8) TG)) := hcsw
    clear hcsw
    refine rdy 8 (fun K hK => ?_)
    refine wp_store_mid 99 (.tmp 11) (.tmp 24) rfl bw 0 csw.toArray rfl rfl (by simpa [hlenw] using hD.out) (by simpa using hiw) (all_oneCell_toArray honew) ?_
    refine hK.out _ _ (below_setCells _ (by omega) _ _ _ hH) (fun hH' => ?_)
    clear hK K hH; have hH := hH'; clear hH'; try simp only [List.setIfInBounds_toArray, List.set]
    refine wpAnyH_done (by kernel_rfl) ?_ _
    refine NoPanic.normal ?_
    go_wp2_with fail
    go_meet
    case rel => exact ⟨bw, TG, rfl, HTG, HTn.out, by rw [← HCW.out]; exact Ar.all_set hD.out hlenw, hLw, hH⟩
  case sd3 =>
   go_simp
   have hLw : W0.heap.size ≤ y0.heap.size := hH.size
   have hD : Hid ((y0.alloc (.cells zb16 99)).there y0.heap.size 0 16) := there_new y0 16 zb16 rfl 99
   have hb := bel1 y0 (.cells zb16 99)
   refine hK.out _ _ (hH.trans hb) (fun hH' => ?_)
   clear hK K hH; have hH := hH'; clear hH'; try simp only [List.setIfInBounds_toArray, List.set]
   obtain ⟨x11, hnew⟩ : ∃ v, v = y0.alloc (.cells zb16 99) := ⟨_, rfl⟩
   obtain ⟨bw, hbw⟩ : ∃ v, v = y0.heap.size := ⟨_, rfl⟩
   rw [← hnew] at hb hD hH ⊢
   rw [← hbw] at hD hLw ⊢
   clear hb hnew hbw
   refine rdy 6 (fun K hK => ?sd12)
   case sd12 =>
    go_simp
    refine (tagof_c key nonce aa la ca ad (some ⟨b, off, none⟩) n cb (box.take n) HK.out HN.out _ (HRA.out.below hH) ((HRB.out.cut n hnl).below hH) (by omega)).mono ?_
    rintro e V14 ⟨TG, rfl, HTG, HTn, hb⟩
    refine hK.out _ _ (hH.trans hb) (fun hH' => ?_)
    clear hK K hH; have hH := hH'; clear hH'; try simp only [List.setIfInBounds_toArray, List.set]
    replace hD : Hid (V14.there bw 0 16) := there_later hb hD.out
    clear hb
    obtain ⟨hlenw, honew, hiw⟩ := bn16_cells HTn.out
    obtain ⟨csw, hcsw⟩ : ∃ cs, cs = (List.map (Value.int .u8) TG) := ⟨_, rfl⟩
    rw [← hcsw] at hlenw honew hiw ⊢
    have HCW : Hid (csw = (List.map (Value.int .u8) TG)) := hcsw
    clear hcsw
    refine rdy 8 (fun K hK => ?_)
    refine wp_store_mid 99 (.tmp 11) (.tmp 24) rfl bw 0 csw.toArray rfl rfl (by simpa [hlenw] using hD.out) (by simpa using hiw) (all_oneCell_toArray honew) ?_
    refine hK.out _ _ (below_setCells _ (by omega) _ _ _ hH) (fun hH' => ?_)
    clear hK K hH; have hH := hH'; clear hH'; try simp only [List.setIfInBounds_toArray, List.set]
    refine wpAnyH_done (by kernel_rfl) ?_ _
    refine NoPanic.normal ?_
    go_wp2_with fail
    go_meet
    case rel => exact ⟨bw, TG, rfl, HTG, HTn.out, by rw [← HCW.out]; exact Ar.all_set hD.out hlenw, hLw, hH⟩
 case rest =>
  obtain ⟨b11, TG, rfl, HTG, HTn, A11, -, hX⟩ := hcut
  generalize wc = W5 at *
  have hb := hX.out
  clear hX
  replace AK := hidp (AK.out.later hb)
  replace AN := hidp (AN.out.later hb)
  replace HRA := hidp (HRA.out.below hb)
  replace HRB := hidp (HRB.out.below hb)
  replace HB := hidp (HB.out.trans (hb.mono HB.out.size))
  clear hb
  have HRD : Hid (Rd W5 (some ⟨b, off + n, none⟩) 16 (cb - n) (box.drop n)) := HRB.out.from n hnl 16 (cb - n) hn6.symm (by omega)
  obtain ⟨bv, HBV⟩ : ∃ bv, Hid (bv = decide (TG = box.drop n)) := ⟨_, rfl⟩
  go_upto_region 5 with fail
  refine wp_region_noPanic ?_
  refine wp_region_held_drew (S := Ext W5) (by kernel_rfl) (Ext.refl _).drew (fun hH => ?_)
  change wpAnyH _ _ _ _ _ _ #[false, false, false, false, false, false] _ _
  refine tk 0 ?_
  try simp only [Act.put, List.setIfInBounds_toArray, List.set_cons_zero, List.set_cons_succ]
  refine tk 1 ?_
  try simp only [Act.put, List.setIfInBounds_toArray, List.set_cons_zero, List.set_cons_succ]
  refine tk 2 ?_
  try simp only [Act.put, List.setIfInBounds_toArray, List.set_cons_zero, List.set_cons_succ]
  refine tk 3 ?_
  try simp only [Act.put, List.setIfInBounds_toArray, List.set_cons_zero, List.set_cons_succ]
  refine rdy 4 (fun K hK => ?_)
  go_simp
  refine (same_any (some ⟨b11, 0, none⟩) 16 16 TG (some ⟨b, off + n, none⟩) 16 (cb - n) (box.drop n) _ ((A11.out.later hH).rd_all HTn.out.byt 16 (by decide)) ((HRD.out.below hH)) (by decide) (by decide)).mono ?_
  rintro e V5 ⟨rfl, hb⟩
  rw [← HBV.out]
  refine hK.out _ _ (hH.trans hb) (fun hH' => ?_)
  clear hK K hH; have hH := hH'; clear hH'; try simp only [List.setIfInBounds_toArray, List.set]
  refine tk 5 ?_
  try simp only [Act.put, List.setIfInBounds_toArray, List.set_cons_zero, List.set_cons_succ]
  refine wpAnyH_done (by kernel_rfl) ?_ _
  refine NoPanic.normal ?_
  replace hb : Below W5.heap.size W5 V5 := (Below.refl _ _).drew.trans (hb.mono (Nat.le_refl _))
  replace AK := hidp (AK.out.later hb)
  replace AN := hidp (AN.out.later hb)
  replace HRB := hidp (HRB.out.below hb)
  replace HB := hidp (HB.out.trans (hb.mono HB.out.size))
  clear hb
  clear hH A11 HRA HRD
  cases bv
  ·have HNE : Hid (er6 key nonce ad box = 8) := by
    unfold Hid
    rw [HER.out, ← HTG.out, if_neg (of_decide_eq_false HBV.out.symm)]
   clear HBV HER HOP
   go_wp2
   go_ret2
   refine ⟨none, 0, 0, [], 8, rfl, HNE.out.symm, ?_, Rd.nil _ _ _ (fun _ => rfl), fr_nil, HB.out⟩
   unfold Hid
   rw [op6_not _ _ _ _ (by rw [HNE.out]; decide)]
  ·have HEQ : Hid (er6 key nonce ad box = 0) := by
    unfold Hid
    rw [HER.out, ← HTG.out, if_pos (of_decide_eq_true HBV.out.symm)]
   clear HBV HER
   go_upto_region 7 with fail
   refine wp_region_noPanic ?_
   refine wp_region_held_drew (S := Ext V5) (by kernel_rfl) (Ext.refl _).drew (fun hH => ?_)
   change wpAnyH _ _ _ _ _ _ #[false, false, false, false, false, false, false, false] _ _
   refine tkl 0 (.agg (List.map (Value.int .u8) key).toArray) ?_ (hy := by exact yieldsIf_load_mid (by rfl) 33 (.tmp 4) rfl w.heap.size 0 rfl (List.map (Value.int .u8) key) _ (fun u hu => range_later hu AK.out.rng) Tryz.underlying33 rfl hiK)
   try simp only [Act.put, List.setIfInBounds_toArray, List.set_cons_zero, List.set_cons_succ]
   refine tkl 1 (.agg (List.map (Value.int .u8) nonce).toArray) ?_ (hy := by exact yieldsIf_load_mid (by rfl) 81 (.tmp 5) rfl q1 0 rfl (List.map (Value.int .u8) nonce) _ (fun u hu => range_later hu AN.out.rng) Tryz.underlying81 rfl hiN)
   try simp only [Act.put, List.setIfInBounds_toArray, List.set_cons_zero, List.set_cons_succ]
   refine tk 2 ?_
   try simp only [Act.put, List.setIfInBounds_toArray, List.set_cons_zero, List.set_cons_succ]
   refine tk 3 ?_
   try simp only [Act.put, List.setIfInBounds_toArray, List.set_cons_zero, List.set_cons_succ]
   refine tk 4 ?_
   try simp only [Act.put, List.setIfInBounds_toArray, List.set_cons_zero, List.set_cons_succ]
   refine rdy 5 (fun K hK => ?_)
   go_simp
   refine (apply_o key 1 nonce (some ⟨b, off, none⟩) n cb (box.take n) HK.out ⟨by decide, by decide⟩ HN.out _ ((HRB.out.cut n hnl).below hH) (by omega)).mono ?_
   rintro e V7 ⟨gx, X, rfl, HX, OX, hgx, hb⟩
   have HFR : Hid (w.heap.size ≤ gx) := Nat.le_trans HB.out.size (Nat.le_trans hH.size hgx)
   clear hgx
   refine hK.out _ _ (hH.trans hb) (fun hH' => ?_)
   clear hK K hH; have hH := hH'; clear hH'; try simp only [List.setIfInBounds_toArray, List.set]
   refine tk 6 ?_
   try simp only [Act.put, List.setIfInBounds_toArray, List.set_cons_zero, List.set_cons_succ]
   refine tk 7 ?_
   try simp only [Act.put, List.setIfInBounds_toArray, List.set_cons_zero, List.set_cons_succ]
   refine wpAnyH_done (by kernel_rfl) ?_ _
   refine NoPanic.normal ?_
   replace hb : Below V5.heap.size V5 V7 := (Below.refl _ _).drew.trans (hb.mono (Nat.le_refl _))
   replace HB := hidp (HB.out.trans (hb.mono HB.out.size))
   clear hb
   clear hH
   go_wp2
   go_ret2
   exact ⟨_, n, n, X, 0, rfl, HEQ.out.symm, by unfold Hid; rw [HOP.out HEQ.out, HX.out], OX.out.rd, fr_at HFR.out, HB.out⟩
set_option maxRecDepth 8000 in
theorem open_f (key nonce : List Int) (aa : Option Addr) (la ca : Nat) (ad : List Int) (ab : Option Addr) (lb cb : Nat) (box : List Int) (hk : Bn 32 key) (hn : Bn 12 nonce) (w : World) (hra : Rd w aa la ca ad) (hrb : Rd w ab lb cb box) (ha : la ≤ 140737488351232) (hm : lb ≤ 140737488351248) :
  Calls Tryz.prog 47 #[(.agg (List.map (Value.int .u8) key).toArray), (.agg (List.map (Value.int .u8) nonce).toArray), .slice aa la ca, .slice ab lb cb] w fun e w' => ∃ a' m c X E, e = .returned (.tuple #[.slice a' m c, .int .i64 E]) ∧ Hid (E = er6 key nonce ad box) ∧ Hid (X = op6 key nonce ad box) ∧ Hid (Rd w' a' m c X) ∧ Fr w.heap.size a' m ∧ Below w.heap.size w w' := by
 by_cases h : lb < 16
 ·exact open_short key nonce aa la ca ad ab lb cb box w hrb h
 ·obtain ⟨b, off, rfl, -⟩ := hrb.cell (by omega)
  exact open_long key nonce aa la ca ad b off lb cb box hk hn w hra hrb ha hm h
set_option maxRecDepth 8000 in
theorem open_c (key nonce : List Int) (aa : Option Addr) (la ca : Nat) (ad : List Int) (ab : Option Addr) (lb cb : Nat) (box : List Int) (hk : Bn 32 key) (hn : Bn 12 nonce) (w : World) (hra : Rd w aa la ca ad) (hrb : Rd w ab lb cb box) (ha : la ≤ 140737488351232) (hm : lb ≤ 140737488351248) :
  Calls Tryz.prog 47 #[(.agg (List.map (Value.int .u8) key).toArray), (.agg (List.map (Value.int .u8) nonce).toArray), .slice aa la ca, .slice ab lb cb] w fun e w' => ∃ a' m c X E, e = .returned (.tuple #[.slice a' m c, .int .i64 E]) ∧ Hid (E = er6 key nonce ad box) ∧ Hid (X = op6 key nonce ad box) ∧ Hid (Rd w' a' m c X) ∧ Below w.heap.size w w' := by
 refine (open_f key nonce aa la ca ad ab lb cb box hk hn w hra hrb ha hm).mono ?_
 rintro e w' ⟨a', m, c, X, E, rfl, h1, h2, h3, -, h4⟩
 exact ⟨a', m, c, X, E, rfl, h1, h2, h3, h4⟩
end Go.Proofs.YtmibjgkakolhiaaGreatDoor
