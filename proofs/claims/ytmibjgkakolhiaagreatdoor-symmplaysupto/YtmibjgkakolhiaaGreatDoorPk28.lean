/-
  Several texts of one's own, laid together. No statement of the seat is proved here.
-/
import Derived.Test.YtmibjgkakolhiaaGreatDoorPk1
import Derived.Test.YtmibjgkakolhiaaGreatDoorPk27
/-
 What aead's filling, Nonce and oneTimeKey do. No statement of the seat is proved here.
-/
namespace Go.Proofs.YtmibjgkakolhiaaGreatDoor
open Go.RowKit

set_option maxRecDepth 8000 in
set_option maxHeartbeats 1000000 in
theorem filling_c (a : Option Addr) (len cap : Nat) (hm : len ≤ 281474976710656) (w : World) :
  Calls Tryz.prog 75 #[.slice a len cap] w fun e w' => ∃ g m, e = .returned (.slice (some ⟨g, 0, none⟩) m m) ∧ m < 16 ∧ Hid (m = fl6 len) ∧ Hid (Ow w' g m (List.replicate m 0)) ∧ w.heap.size ≤ g ∧ Below w.heap.size w w' := by
 obtain ⟨i0, hi, hz0, hz1, hz2⟩ := info_parts info5
 obtain ⟨p, hp⟩ : ∃ p, p = len % 16 := ⟨_, rfl⟩
 have hp1 : Int.tmod (len : Int) 16 = (p : Int) := by rw [Int.tmod_eq_emod_of_nonneg (by omega)]; omega
 have hp2 : p < 16 := by omega
 obtain ⟨q, hq⟩ : ∃ q : Nat, q = 16 - p := ⟨_, rfl⟩
 have hq1 : (16 : Int) - (p : Int) = (q : Int) := by omega
 obtain ⟨m, hmm⟩ : ∃ m, m = q % 16 := ⟨_, rfl⟩
 have hm1 : Int.tmod (q : Int) 16 = (m : Int) := by rw [Int.tmod_eq_emod_of_nonneg (by omega)]; omega
 have hm2 : m < 16 := by omega
 have HM : Hid (m = fl6 len) := by unfold Hid fl6; rw [hmm, hq, hp]
 clear hp hmm hq
 go_enter Tryz.func75, Tryz.ntmps75
 go_wp2_with (at_make; refine wpList_make_full _ rfl _ _ 28 rfl w.heap.size 5 i0 (.int .u8 0) 1 Tryz.underlying28 hi hz0 hz1 _ _ _ _ m rfl rfl rfl rfl (by rw [hz2]; omega) (by unfold maxLen; omega) (Nat.le_refl _) ?_)
 intro W1 hown hgrow
 have hb1 : Below w.heap.size w W1 := (Below.refl _ _).grown hgrow (Nat.le_refl _) (fun k h => by cases h)
 have HO : Hid (Ow W1 w.heap.size m (List.replicate m 0)) := ⟨⟨w.heap.size, by rw [← made_zero]; simpa [Value.cells] using hown⟩, byt_zero m⟩
 clear hown hgrow hp1 hq1 hm1
 go_wp2
 go_ret
 exact ⟨_, m, rfl, hm2, HM, HO, Nat.le_refl _, hb1⟩

set_option maxRecDepth 8000 in
set_option maxHeartbeats 2000000 in
theorem nonce_c (m : Int) (h0 : 0 ≤ m) (h1 : m < 18446744073709551616) (w : World) :
  Calls Tryz.prog 48 #[.int .u64 m] w fun e w' => ∃ N, e = .returned (.agg (List.map (Value.int .u8) N).toArray) ∧ Hid (N = nn6 m) ∧ Hid (Bn 12 N) ∧ Below w.heap.size w w' := by
 go_enter Tryz.func48, Tryz.ntmps48
 go_upto_region 2 with fail
 have AD : Hid (((w.alloc (.cells zb12 81)).alloc (.cells zb12 81)).there w.heap.size 0 12) := there_later (bel1 _ _) (there_new w 12 zb12 rfl 81)
 have A3 : Hid (Ar ((w.alloc (.cells zb12 81)).alloc (.cells zb12 81)) (w.heap.size + 1) 12 (List.map (Value.int .u8) (List.replicate 12 0))) := by have := ar_box (w.alloc (.cells zb12 81)) (List.map (Value.int .u8) (List.replicate 12 0)) 12 rfl 81; simpa [Hid] using this
 have HB : Hid (Below w.heap.size w ((w.alloc (.cells zb12 81)).alloc (.cells zb12 81))) := bel2 _ _ _
 generalize ((w.alloc (.cells zb12 81)).alloc (.cells zb12 81)) = W at *
 have k1 : w.heap.size < w.heap.size + 1 := by omega
 generalize w.heap.size + 1 = b3 at *
 refine wp_region_noPanic ?_
 refine wp_region_held_drew (S := ExtB b3 W) (by kernel_rfl) (ExtB.refl _ _).drew (fun hH => ?_)
 change wpAnyH _ _ _ _ _ _ #[false, false, false, false] _ _
 refine tk 0 ?_
 try simp only [Act.put, List.setIfInBounds_toArray, List.set_cons_zero, List.set_cons_succ]
 refine tk 1 ?_
 try simp only [Act.put, List.setIfInBounds_toArray, List.set_cons_zero, List.set_cons_succ]
 refine rdy 2 (fun K hK => ?_)
 go_simp
 refine (put64_g m _ ⟨h0, h1⟩).mono ?_
 rintro e V ⟨gp, rfl, HP, hb⟩
 refine hK.out _ _ (hH.trans hb) (fun hH' => ?_)
 clear hK K hH; have hH := hH'; clear hH'; try simp only [List.setIfInBounds_toArray, List.set]
 replace hb : Below W.heap.size W V := (Below.refl _ _).drew.trans (hb.mono (Nat.le_refl _))
 replace A3 := hidp (A3.out.later hb)
 replace AD : Hid (V.there w.heap.size 0 12) := there_later hb AD.out
 replace HB := hidp (HB.out.trans (hb.mono HB.out.size))
 have hcp := fun ty => copy_c V b3 4 8 8 ⟨gp, 0, none⟩ 8 8 (lay 8 m) HP.out 8 (by decide) (there_part A3.out.all 4 8 (by decide)) ty
 rw [List.take_of_length_le (by rw [lay_length]; decide)] at hcp
 clear hb
 refine rdy 3 (fun K hK => ?_)
 go_simp
 refine hK.out _ _ (extB_setCells _ _ _ hH) (fun hH' => ?_)
 clear hK K hH; have hH := hH'; clear hH'; try simp only [List.setIfInBounds_toArray, List.set]
 refine wpAnyH_done (by kernel_rfl) ?_ _
 refine NoPanic.normal ?_
 have A4 : Hid (Ar (V.setCells b3 4 (List.map (Value.int .u8) (lay 8 m))) b3 12 (List.map (Value.int .u8) (nn6 m))) := by
  have := A3.out.part 4 (List.map (Value.int .u8) (lay 8 m)) (by rw [List.length_map, lay_length]; decide)
  rw [List.length_map, lay_length, ← List.map_take, ← List.map_drop, ← List.map_append, ← List.map_append] at this
  simpa [Hid, nn6] using this
 replace AD : Hid ((V.setCells b3 4 (List.map (Value.int .u8) (lay 8 m))).there w.heap.size 0 12) := World.there_setCells AD.out _ _ _
 replace HB : Hid (Below w.heap.size w (V.setCells b3 4 (List.map (Value.int .u8) (lay 8 m)))) := below_setCells _ (by omega) _ _ _ HB.out
 clear A3 hH hcp
 go_upto_region 3 with fail
 generalize (V.setCells b3 4 (List.map (Value.int .u8) (lay 8 m))) = Y at *
 obtain ⟨hlenE, honeE, hiE⟩ := bn12_cells (nn6_bn m)
 obtain ⟨csE, hcs⟩ : ∃ cs, cs = (List.map (Value.int .u8) (nn6 m)) := ⟨_, rfl⟩
 have HE : Hid (csE = (List.map (Value.int .u8) (nn6 m))) := hcs
 have hrE := A4.out.rng
 rw [← hcs] at hlenE honeE hiE hrE
 clear hcs
 go_wp2_with (first
  | (refine wpList_load_mid rfl 81 (.tmp 3) rfl b3 0 rfl csE _ hrE Tryz.underlying81 rfl hiE ?_)
  | (refine wpList_store_mid rfl 81 (.tmp 2) (.tmp 8) rfl w.heap.size 0 csE.toArray rfl rfl (by simpa [hlenE] using AD.out) (by simpa using hiE) (all_oneCell_toArray honeE) ?_))
 have HR2 : Hid ((Y.setCells w.heap.size 0 csE).rangeAt w.heap.size 0 csE) := World.rangeAt_setCells_same _ _ _ _ (by rw [hlenE]; exact AD.out)
 have hld := run_loadVar_mid (P := Tryz.prog) _ _ 0 81 _ _ HR2.out Tryz.underlying81 rfl hiE
 exact bodyPost_ret (v := .agg csE.toArray) (by simp [results, Tryz.results48]; exact hld) rfl ⟨nn6 m, by rw [HE.out], rfl, nn6_bn m, below_setCells _ (by omega) _ _ _ HB.out⟩


set_option maxRecDepth 8000 in
set_option maxHeartbeats 4000000 in
theorem onekey_c (key nonce : List Int) (hk : Bn 32 key) (hn : Bn 12 nonce) (w : World) :
  Calls Tryz.prog 74 #[(.agg (List.map (Value.int .u8) key).toArray), (.agg (List.map (Value.int .u8) nonce).toArray)] w fun e w' => ∃ X, e = .returned (.agg (List.map (Value.int .u8) X).toArray) ∧ Hid (X = ot6 key nonce) ∧ Hid (Bn 32 X) ∧ Below w.heap.size w w' := by
 have HK : Hid (Bn 32 key) := hk
 have HN : Hid (Bn 12 nonce) := hn
 clear hk hn
 obtain ⟨_, _, hiK⟩ := bn32_cells HK.out
 obtain ⟨_, _, hiN⟩ := bn12_cells HN.out
 go_enter Tryz.func74, Tryz.ntmps74
 go_upto_region 1 with fail
 have AK : Hid (Ar (((w.alloc (.cells (List.map (Value.int .u8) key).toArray 33)).alloc (.cells (List.map (Value.int .u8) nonce).toArray 81)).alloc (.cells zb32 33)) w.heap.size 32 (List.map (Value.int .u8) key)) := (ar_box w _ 32 HK.out.map_len _).later (bel2 _ _ _)
 have AN : Hid (Ar (((w.alloc (.cells (List.map (Value.int .u8) key).toArray 33)).alloc (.cells (List.map (Value.int .u8) nonce).toArray 81)).alloc (.cells zb32 33)) (w.heap.size + 1) 12 (List.map (Value.int .u8) nonce)) := by have := (ar_box (w.alloc (.cells (List.map (Value.int .u8) key).toArray 33)) _ 12 HN.out.map_len 81).later (bel1 _ (.cells zb32 33)); simpa [Hid] using this
 have AD : Hid ((((w.alloc (.cells (List.map (Value.int .u8) key).toArray 33)).alloc (.cells (List.map (Value.int .u8) nonce).toArray 81)).alloc (.cells zb32 33)).there (w.heap.size + 1 + 1) 0 32) := by have := there_new ((w.alloc (.cells (List.map (Value.int .u8) key).toArray 33)).alloc (.cells (List.map (Value.int .u8) nonce).toArray 81)) 32 zb32 rfl 33; simpa [Hid] using this
 have HB : Hid (Below w.heap.size w (((w.alloc (.cells (List.map (Value.int .u8) key).toArray 33)).alloc (.cells (List.map (Value.int .u8) nonce).toArray 81)).alloc (.cells zb32 33))) := bel3 _ _ _ _
 generalize (((w.alloc (.cells (List.map (Value.int .u8) key).toArray 33)).alloc (.cells (List.map (Value.int .u8) nonce).toArray 81)).alloc (.cells zb32 33)) = W0 at *
 have k1 : w.heap.size < w.heap.size + 1 := by omega
 have k2 : w.heap.size + 1 < w.heap.size + 1 + 1 := by omega
 generalize hq1 : w.heap.size + 1 = q1 at *
 generalize hq2 : q1 + 1 = q2 at *
 go_wp2_with (first
 | (refine wpList_load_mid rfl 33 (.tmp 2) rfl w.heap.size 0 rfl (List.map (Value.int .u8) key) _ AK.out.rng Tryz.underlying33 rfl hiK ?_)
 | (refine wpList_load_mid rfl 81 (.tmp 3) rfl q1 0 rfl (List.map (Value.int .u8) nonce) _ AN.out.rng Tryz.underlying81 rfl hiN ?_))
 refine (block_c key 0 nonce HK.out ⟨by decide, by decide⟩ HN.out _).mono ?_
 rintro e V ⟨B, rfl, HBk, hB, hb⟩
 have HBn : Hid (Bn 64 B) := hB
 clear hB
 have kV : q2 < W0.heap.size := there_lt AD.out (by decide)
 replace AD : Hid (V.there q2 0 32) := there_later hb AD.out
 replace HB := hidp (HB.out.trans (hb.mono HB.out.size))
 clear hb
 clear AK AN hiK hiN
 have kV2 : q2 < V.heap.size := there_lt AD.out (by decide)
 obtain ⟨hlen5, hone5, hi5⟩ := bn64_cells HBn.out
 obtain ⟨cs5, hcs⟩ : ∃ cs, cs = (List.map (Value.int .u8) B) := ⟨_, rfl⟩
 rw [← hcs] at hlen5 hone5 hi5 ⊢
 have HC5 : Hid (cs5 = (List.map (Value.int .u8) B)) := hcs
 clear hcs
 have hth := there_new V 64 zb64 rfl 90
 have A5 : Hid (Ar ((V.alloc (.cells zb64 90)).setCells V.heap.size 0 cs5) V.heap.size 64 (List.map (Value.int .u8) B)) := by rw [← HC5.out]; exact ar_var _ _ 64 rfl _ _ hlen5
 have hX : Below V.heap.size V ((V.alloc (.cells zb64 90)).setCells V.heap.size 0 cs5) := bel_var _ _ _ _
 have hbs5 : w.heap.size ≤ V.heap.size := HB.out.size
 replace AD : Hid (((V.alloc (.cells zb64 90)).setCells V.heap.size 0 cs5).there q2 0 32) := there_later hX AD.out
 replace HB := hidp (HB.out.trans (hX.mono HB.out.size))
 clear hX
 go_upto_region 2 with (refine wpList_store_mid rfl 90 (.tmp 5) (.tmp 9) rfl (V.heap.size) 0 cs5.toArray rfl rfl (by simpa [hlen5] using hth) (by simpa using hi5) (all_oneCell_toArray hone5) ?_)
 clear hth
 generalize ((V.alloc (.cells zb64 90)).setCells V.heap.size 0 cs5) = W2 at *
 generalize V.heap.size = b5 at *
 clear HC5 hone5 hlen5 hi5
 have k5 : b5 < W2.heap.size := A5.out.lt (by decide)
 go_upto_region 3 with fail
 have A6 : Hid (Ar (W2.alloc (.cells zb32 33)) W2.heap.size 32 (List.map (Value.int .u8) (List.replicate 32 0))) := ar_box W2 (List.map (Value.int .u8) (List.replicate 32 0)) 32 rfl 33
 have hX := bel1 W2 (.cells zb32 33)
 have hbs6 : w.heap.size ≤ W2.heap.size := HB.out.size
 replace AD : Hid ((W2.alloc (.cells zb32 33)).there q2 0 32) := there_later hX AD.out
 replace A5 := hidp (A5.out.later hX)
 replace HB := hidp (HB.out.trans (hX.mono HB.out.size))
 clear hX
 generalize W2.alloc (.cells zb32 33) = W3 at *
 generalize W2.heap.size = b6 at *
 refine wp_region_noPanic ?_
 refine wp_region_held_drew (S := ExtB b6 W3) (by kernel_rfl) (ExtB.refl _ _).drew (fun hH => ?_)
 change wpAnyH _ _ _ _ _ _ #[false, false, false] _ _
 refine tk 0 ?_
 try simp only [Act.put, List.setIfInBounds_toArray, List.set_cons_zero, List.set_cons_succ]
 refine tk 1 ?_
 try simp only [Act.put, List.setIfInBounds_toArray, List.set_cons_zero, List.set_cons_succ]
 have hcp := fun ty => copy_c W3.drew b6 0 32 32 ⟨b5, 0, none⟩ 64 64 B (A5.out.drew.rd_all HBn.out.byt 64 (by decide)) 32 (by decide) A6.out.drew.all ty
 obtain ⟨B2, hB2⟩ : ∃ l, l = B.take 32 := ⟨_, rfl⟩
 rw [← hB2] at hcp
 have HB2 : Hid (B2 = B.take 32) := hB2
 clear hB2
 have HBt : Hid (Bn 32 B2) := ⟨by rw [HB2.out, List.length_take, HBn.out.len]; decide, by rw [HB2.out]; exact HBn.out.byt.take 32⟩
 refine rdy 2 (fun K hK => ?_)
 go_simp
 refine hK.out _ _ (extB_setCells _ _ _ hH) (fun hH' => ?_)
 clear hK K hH; have hH := hH'; clear hH'; try simp only [List.setIfInBounds_toArray, List.set]
 refine wpAnyH_done (by kernel_rfl) ?_ _
 refine NoPanic.normal ?_
 have A7 : Hid (Ar (W3.drew.setCells b6 0 (List.map (Value.int .u8) B2)) b6 32 (List.map (Value.int .u8) B2)) := by
  have := A6.out.drew.part 0 (List.map (Value.int .u8) B2) (by rw [HBt.out.map_len]; decide)
  rw [HBt.out.map_len, ← List.map_take, ← List.map_drop, ← List.map_append, ← List.map_append] at this
  simpa [Hid] using this
 replace AD : Hid ((W3.drew.setCells b6 0 (List.map (Value.int .u8) B2)).there q2 0 32) := World.there_setCells (there_later (Below.refl _ _).drew AD.out) _ _ _
 replace HB : Hid (Below w.heap.size w (W3.drew.setCells b6 0 (List.map (Value.int .u8) B2))) := below_setCells _ (by omega) _ _ _ HB.out.drew
 clear A5 A6 hH hcp
 go_upto_region 4 with fail
 generalize (W3.drew.setCells b6 0 (List.map (Value.int .u8) B2)) = Y at *
 obtain ⟨hlenE, honeE, hiE⟩ := bn32_cells HBt.out
 obtain ⟨csE, hcs⟩ : ∃ cs, cs = (List.map (Value.int .u8) B2) := ⟨_, rfl⟩
 have HE : Hid (csE = (List.map (Value.int .u8) B2)) := hcs
 have hrE := A7.out.rng
 rw [← hcs] at hlenE honeE hiE hrE
 clear hcs
 go_wp2_with (first
  | (refine wpList_load_mid rfl 33 (.tmp 6) rfl b6 0 rfl csE _ hrE Tryz.underlying33 rfl hiE ?_)
  | (refine wpList_store_mid rfl 33 (.tmp 4) (.tmp 13) rfl q2 0 csE.toArray rfl rfl (by simpa [hlenE] using AD.out) (by simpa using hiE) (all_oneCell_toArray honeE) ?_))
 have HR2 : Hid ((Y.setCells q2 0 csE).rangeAt q2 0 csE) := World.rangeAt_setCells_same _ _ _ _ (by rw [hlenE]; exact AD.out)
 have hld := run_loadVar_mid (P := Tryz.prog) _ _ 0 33 _ _ HR2.out Tryz.underlying33 rfl hiE
 exact bodyPost_ret (v := .agg csE.toArray) (by simp [results, Tryz.results74]; exact hld) rfl ⟨B2, by rw [HE.out], by unfold Hid ot6; rw [HB2.out, HBk.out], HBt, below_setCells _ (by omega) _ _ _ HB.out⟩
end Go.Proofs.YtmibjgkakolhiaaGreatDoor
/-
 What aead's tagOf does. No statement of the seat is proved here.
-/
namespace Go.Proofs.YtmibjgkakolhiaaGreatDoor
open Go.RowKit

set_option maxRecDepth 8000 in
set_option maxHeartbeats 4000000 in
theorem tagof_c (key nonce : List Int) (aa : Option Addr) (la ca : Nat) (ad : List Int) (ah : Option Addr) (lh ch : Nat) (hid : List Int) (hk : Bn 32 key) (hn : Bn 12 nonce) (w : World) (hra : Rd w aa la ca ad) (hrh : Rd w ah lh ch hid) (hm : la + lh + 46 ≤ 281474976710656) :
  Calls Tryz.prog 62 #[(.agg (List.map (Value.int .u8) key).toArray), (.agg (List.map (Value.int .u8) nonce).toArray), .slice aa la ca, .slice ah lh ch] w fun e w' => ∃ X, e = .returned (.agg (List.map (Value.int .u8) X).toArray) ∧ Hid (X = tt6 key nonce ad hid) ∧ Hid (Bn 16 X) ∧ Below w.heap.size w w' := by
 have HRA : Hid (Rd w aa la ca ad) := hra
 have HRH : Hid (Rd w ah lh ch hid) := hrh
 have HLA : Hid (ad.length = la) := hra.hlen
 have HLH : Hid (hid.length = lh) := hrh.hlen
 have HBA : Hid (Byt ad) := hra.byt
 have HBH : Hid (Byt hid) := hrh.byt
 clear hra hrh
 have hwa : IntKind.u64.wrap (la : Int) = (la : Int) := by rw [IntKind.wrap_u64]; omega
 have hwh : IntKind.u64.wrap (lh : Int) = (lh : Int) := by rw [IntKind.wrap_u64]; omega
 have HK : Hid (Bn 32 key) := hk
 have HN : Hid (Bn 12 nonce) := hn
 clear hk hn
 obtain ⟨_, _, hiK⟩ := bn32_cells HK.out
 obtain ⟨_, _, hiN⟩ := bn12_cells HN.out
 go_enter Tryz.func62, Tryz.ntmps62
 go_upto_region 1 with fail
 have AK : Hid (Ar (((w.alloc (.cells (List.map (Value.int .u8) key).toArray 33)).alloc (.cells (List.map (Value.int .u8) nonce).toArray 81)).alloc (.cells zb16 99)) w.heap.size 32 (List.map (Value.int .u8) key)) := (ar_box w _ 32 HK.out.map_len _).later (bel2 _ _ _)
 have AN : Hid (Ar (((w.alloc (.cells (List.map (Value.int .u8) key).toArray 33)).alloc (.cells (List.map (Value.int .u8) nonce).toArray 81)).alloc (.cells zb16 99)) (w.heap.size + 1) 12 (List.map (Value.int .u8) nonce)) := by have := (ar_box (w.alloc (.cells (List.map (Value.int .u8) key).toArray 33)) _ 12 HN.out.map_len 81).later (bel1 _ (.cells zb16 99)); simpa [Hid] using this
 have AD : Hid ((((w.alloc (.cells (List.map (Value.int .u8) key).toArray 33)).alloc (.cells (List.map (Value.int .u8) nonce).toArray 81)).alloc (.cells zb16 99)).there (w.heap.size + 1 + 1) 0 16) := by have := there_new ((w.alloc (.cells (List.map (Value.int .u8) key).toArray 33)).alloc (.cells (List.map (Value.int .u8) nonce).toArray 81)) 16 zb16 rfl 99; simpa [Hid] using this
 have HB : Hid (Below w.heap.size w (((w.alloc (.cells (List.map (Value.int .u8) key).toArray 33)).alloc (.cells (List.map (Value.int .u8) nonce).toArray 81)).alloc (.cells zb16 99))) := bel3 _ _ _ _
 generalize (((w.alloc (.cells (List.map (Value.int .u8) key).toArray 33)).alloc (.cells (List.map (Value.int .u8) nonce).toArray 81)).alloc (.cells zb16 99)) = W0 at *
 have k1 : w.heap.size < w.heap.size + 1 := by omega
 have k2 : w.heap.size + 1 < w.heap.size + 1 + 1 := by omega
 generalize hq1 : w.heap.size + 1 = q1 at *
 generalize hq2 : q1 + 1 = q2 at *
 replace HRA := hidp (HRA.out.below HB.out)
 replace HRH := hidp (HRH.out.below HB.out)
 go_wp2_with (first
 | (refine wpList_load_mid rfl 33 (.tmp 4) rfl w.heap.size 0 rfl (List.map (Value.int .u8) key) _ AK.out.rng Tryz.underlying33 rfl hiK ?_)
 | (refine wpList_load_mid rfl 81 (.tmp 5) rfl q1 0 rfl (List.map (Value.int .u8) nonce) _ AN.out.rng Tryz.underlying81 rfl hiN ?_))
 refine (onekey_c key nonce HK.out HN.out _).mono ?_
 rintro e V ⟨X1, rfl, HX1, HXn, hb⟩
 replace HRA := hidp (HRA.out.below hb)
 replace HRH := hidp (HRH.out.below hb)
 replace AD : Hid (V.there q2 0 16) := there_later hb AD.out
 replace HB := hidp (HB.out.trans (hb.mono HB.out.size))
 clear hb
 clear AK AN hiK hiN
 go_wp2_with fail
 refine (filling_c aa la ca (by omega) _).mono ?_
 rintro e V1 ⟨g1, m1, rfl, hm1, HM1, Og1, -, hb⟩
 replace HRA := hidp (HRA.out.below hb)
 replace HRH := hidp (HRH.out.below hb)
 replace AD : Hid (V1.there q2 0 16) := there_later hb AD.out
 replace HB := hidp (HB.out.trans (hb.mono HB.out.size))
 clear hb
 go_wp2_with fail
 refine (filling_c ah lh ch (by omega) _).mono ?_
 rintro e V2 ⟨g2, m2, rfl, hm2, HM2, Og2, -, hb⟩
 replace HRA := hidp (HRA.out.below hb)
 replace HRH := hidp (HRH.out.below hb)
 replace AD : Hid (V2.there q2 0 16) := there_later hb AD.out
 replace Og1 := hidp (Og1.out.later hb)
 replace HB := hidp (HB.out.trans (hb.mono HB.out.size))
 clear hb
 go_wp2_with fail
 refine (put64_g (la : Int) _ ⟨by omega, by omega⟩).mono ?_
 rintro e V3 ⟨g3, rfl, HP1, hb⟩
 replace HRA := hidp (HRA.out.below hb)
 replace HRH := hidp (HRH.out.below hb)
 replace AD : Hid (V3.there q2 0 16) := there_later hb AD.out
 replace Og1 := hidp (Og1.out.later hb)
 replace Og2 := hidp (Og2.out.later hb)
 replace HB := hidp (HB.out.trans (hb.mono HB.out.size))
 clear hb
 go_wp2_with fail
 refine (put64_g (lh : Int) _ ⟨by omega, by omega⟩).mono ?_
 rintro e V5 ⟨g4, rfl, HP2, hb⟩
 replace HRA := hidp (HRA.out.below hb)
 replace HRH := hidp (HRH.out.below hb)
 replace AD : Hid (V5.there q2 0 16) := there_later hb AD.out
 replace Og1 := hidp (Og1.out.later hb)
 replace Og2 := hidp (Og2.out.later hb)
 replace HP1 := hidp (HP1.out.below hb)
 replace HB := hidp (HB.out.trans (hb.mono HB.out.size))
 clear hb
 go_wp2_with fail
 have HRL : Hid (RdL (V5.alloc (.cells #[.slice aa la ca, .slice (some ⟨g1, 0, none⟩) m1 m1, .slice ah lh ch, .slice (some ⟨g2, 0, none⟩) m2 m2, .slice (some ⟨g3, 0, none⟩) 8 8, .slice (some ⟨g4, 0, none⟩) 8 8] 28)) (some ⟨V5.heap.size, 0, none⟩) 6 [ad, List.replicate m1 0, hid, List.replicate m2 0, lay 8 (la : Int), lay 8 (lh : Int)]) := RdL.six V5 _ _ _ _ _ _ _ _ _ _ _ _ _ _ _ _ _ _ _ _ _ _ _ _ 28 HRA.out Og1.out.rd HRH.out Og2.out.rd HP1.out HP2.out
 have hX := bel1 V5 (.cells #[.slice aa la ca, .slice (some ⟨g1, 0, none⟩) m1 m1, .slice ah lh ch, .slice (some ⟨g2, 0, none⟩) m2 m2, .slice (some ⟨g3, 0, none⟩) 8 8, .slice (some ⟨g4, 0, none⟩) 8 8] 28)
 replace AD : Hid ((V5.alloc (.cells #[.slice aa la ca, .slice (some ⟨g1, 0, none⟩) m1 m1, .slice ah lh ch, .slice (some ⟨g2, 0, none⟩) m2 m2, .slice (some ⟨g3, 0, none⟩) 8 8, .slice (some ⟨g4, 0, none⟩) 8 8] 28)).there q2 0 16) := there_later hX AD.out
 replace HB := hidp (HB.out.trans (hX.mono HB.out.size))
 clear hX
 have HMT : Hid (mt6 ad hid = [ad, List.replicate m1 0, hid, List.replicate m2 0, lay 8 (la : Int), lay 8 (lh : Int)].flatten) := by unfold Hid mt6 ml6; rw [HLA.out, HLH.out, ← HM1.out, ← HM2.out]
 have hml : (mt6 ad hid).length ≤ 281474976710656 := by
  have h1 := fl6_lt ad.length
  have h2 := fl6_lt hid.length
  rw [mt6_len, HLA.out, HLH.out]
  rw [HLA.out] at h1
  rw [HLH.out] at h2
  omega
 refine (join_l _ _ _ _ _ HRL.out (by decide) (by rw [← HMT.out]; exact hml) (by rw [← HMT.out]; exact mt6_byt HBA.out HBH.out)).mono ?_
 rintro e V6 ⟨gj, T6, Xj, rfl, HTj, HXj, HOj, -, hb⟩
 replace AD : Hid (V6.there q2 0 16) := there_later hb AD.out
 replace HB := hidp (HB.out.trans (hb.mono HB.out.size))
 clear hb
 have hT6 : T6 ≤ 281474976710656 := by rw [HTj.out, ← HMT.out]; exact hml
 replace HXj : Hid (Xj = mt6 ad hid) := by unfold Hid; rw [HXj.out, HMT.out]
 clear HTj HMT hml HRL Og1 Og2 HP1 HP2
 go_wp2_with fail
 refine (tag_c (some ⟨gj, 0, none⟩) T6 T6 X1 Xj HXn.out _ HOj.out.rd hT6).mono ?_
 rintro e V7 ⟨TG, rfl, HTG, hTG, hb⟩
 have HTn : Hid (Bn 16 TG) := hTG
 have HTE : Hid (TG = tt6 key nonce ad hid) := by unfold Hid tt6; rw [HTG.out, HX1.out, HXj.out]
 clear hTG HTG HX1 HXj HOj
 replace AD : Hid (V7.there q2 0 16) := there_later hb AD.out
 replace HB := hidp (HB.out.trans (hb.mono HB.out.size))
 clear hb
 obtain ⟨hlenE, honeE, hiE⟩ := bn16_cells HTn.out
 obtain ⟨csE, hcs⟩ : ∃ cs, cs = (List.map (Value.int .u8) TG) := ⟨_, rfl⟩
 have HE : Hid (csE = (List.map (Value.int .u8) TG)) := hcs
 rw [← hcs] at hlenE honeE hiE ⊢
 clear hcs
 go_wp2_with (refine wpList_store_mid rfl 99 (.tmp 8) (.tmp 28) rfl q2 0 csE.toArray rfl rfl (by simpa [hlenE] using AD.out) (by simpa using hiE) (all_oneCell_toArray honeE) ?_)
 have HR2 : Hid ((V7.setCells q2 0 csE).rangeAt q2 0 csE) := World.rangeAt_setCells_same _ _ _ _ (by rw [hlenE]; exact AD.out)
 have hld := run_loadVar_mid (P := Tryz.prog) _ _ 0 99 _ _ HR2.out Tryz.underlying99 rfl hiE
 exact bodyPost_ret (v := .agg csE.toArray) (by simp [results, Tryz.results62]; exact hld) rfl ⟨TG, by rw [HE.out], HTE, HTn, below_setCells _ (by omega) _ _ _ HB.out⟩
end Go.Proofs.YtmibjgkakolhiaaGreatDoor
/-
 What aead's Seal does. No statement of the seat is proved here.
-/
namespace Go.Proofs.YtmibjgkakolhiaaGreatDoor
open Go.RowKit

set_option maxRecDepth 8000 in
set_option maxHeartbeats 4000000 in
theorem seal_c (key nonce : List Int) (aa : Option Addr) (la ca : Nat) (ad : List Int) (at' : Option Addr) (lt ct : Nat) (text : List Int) (hk : Bn 32 key) (hn : Bn 12 nonce) (w : World) (hra : Rd w aa la ca ad) (hrt : Rd w at' lt ct text) (ha : la ≤ 140737488351232) (hm : lt ≤ 140737488351232) :
  Calls Tryz.prog 52 #[(.agg (List.map (Value.int .u8) key).toArray), (.agg (List.map (Value.int .u8) nonce).toArray), .slice aa la ca, .slice at' lt ct] w fun e w' => ∃ g m X, e = .returned (.slice (some ⟨g, 0, none⟩) m m) ∧ Hid (m = lt + 16) ∧ Hid (X = se6 key nonce ad text) ∧ Hid (Ow w' g m X) ∧ w.heap.size ≤ g ∧ Below w.heap.size w w' := by
 have HRA : Hid (Rd w aa la ca ad) := hra
 have HRT : Hid (Rd w at' lt ct text) := hrt
 have HLT : Hid (text.length = lt) := hrt.hlen
 have HBT : Hid (Byt text) := hrt.byt
 clear hra hrt
 have HK : Hid (Bn 32 key) := hk
 have HN : Hid (Bn 12 nonce) := hn
 clear hk hn
 obtain ⟨_, _, hiK⟩ := bn32_cells HK.out
 obtain ⟨_, _, hiN⟩ := bn12_cells HN.out
 go_enter Tryz.func52, Tryz.ntmps52
 go_upto_region 1 with fail
 have AK : Hid (Ar ((w.alloc (.cells (List.map (Value.int .u8) key).toArray 33)).alloc (.cells (List.map (Value.int .u8) nonce).toArray 81)) w.heap.size 32 (List.map (Value.int .u8) key)) := (ar_box w _ 32 HK.out.map_len _).later (bel1 _ _)
 have AN : Hid (Ar ((w.alloc (.cells (List.map (Value.int .u8) key).toArray 33)).alloc (.cells (List.map (Value.int .u8) nonce).toArray 81)) (w.heap.size + 1) 12 (List.map (Value.int .u8) nonce)) := by have := (ar_box (w.alloc (.cells (List.map (Value.int .u8) key).toArray 33)) _ 12 HN.out.map_len 81); simpa [Hid] using this
 have HB : Hid (Below w.heap.size w ((w.alloc (.cells (List.map (Value.int .u8) key).toArray 33)).alloc (.cells (List.map (Value.int .u8) nonce).toArray 81))) := bel2 _ _ _
 generalize ((w.alloc (.cells (List.map (Value.int .u8) key).toArray 33)).alloc (.cells (List.map (Value.int .u8) nonce).toArray 81)) = W0 at *
 have k1 : w.heap.size < w.heap.size + 1 := by omega
 generalize hq1 : w.heap.size + 1 = q1 at *
 replace HRA := hidp (HRA.out.below HB.out)
 replace HRT := hidp (HRT.out.below HB.out)
 go_wp2_with (first
 | (refine wpList_load_mid rfl 33 (.tmp 4) rfl w.heap.size 0 rfl (List.map (Value.int .u8) key) _ AK.out.rng Tryz.underlying33 rfl hiK ?_)
 | (refine wpList_load_mid rfl 81 (.tmp 5) rfl q1 0 rfl (List.map (Value.int .u8) nonce) _ AN.out.rng Tryz.underlying81 rfl hiN ?_))
 refine (apply_o key 1 nonce at' lt ct text HK.out ⟨by decide, by decide⟩ HN.out _ HRT.out hm).mono ?_
 rintro e V ⟨gh, H, rfl, HH, OH, -, hb⟩
 clear HRT
 replace AK := hidp (AK.out.later hb)
 replace AN := hidp (AN.out.later hb)
 replace HRA := hidp (HRA.out.below hb)
 replace HB := hidp (HB.out.trans (hb.mono HB.out.size))
 clear hb
 go_wp2_with (first
 | (refine wpList_load_mid rfl 33 (.tmp 4) rfl w.heap.size 0 rfl (List.map (Value.int .u8) key) _ AK.out.rng Tryz.underlying33 rfl hiK ?_)
 | (refine wpList_load_mid rfl 81 (.tmp 5) rfl q1 0 rfl (List.map (Value.int .u8) nonce) _ AN.out.rng Tryz.underlying81 rfl hiN ?_))
 refine (tagof_c key nonce aa la ca ad (some ⟨gh, 0, none⟩) lt lt H HK.out HN.out _ HRA.out OH.out.rd (by omega)).mono ?_
 rintro e V1 ⟨TG, rfl, HTG, HTn, hb⟩
 clear AK AN HRA hiK hiN
 replace OH := hidp (OH.out.later hb)
 replace HB := hidp (HB.out.trans (hb.mono HB.out.size))
 clear hb
 obtain ⟨hlen10, hone10, hi10⟩ := bn16_cells HTn.out
 obtain ⟨cs10, hcs⟩ : ∃ cs, cs = (List.map (Value.int .u8) TG) := ⟨_, rfl⟩
 rw [← hcs] at hlen10 hone10 hi10 ⊢
 have HC10 : Hid (cs10 = (List.map (Value.int .u8) TG)) := hcs
 clear hcs
 have hth := there_new V1 16 zb16 rfl 99
 have A10 : Hid (Ar ((V1.alloc (.cells zb16 99)).setCells V1.heap.size 0 cs10) V1.heap.size 16 (List.map (Value.int .u8) TG)) := by rw [← HC10.out]; exact ar_var _ _ 16 rfl _ _ hlen10
 have hX : Below V1.heap.size V1 ((V1.alloc (.cells zb16 99)).setCells V1.heap.size 0 cs10) := bel_var _ _ _ _
 have hbs10 : w.heap.size ≤ V1.heap.size := HB.out.size
 replace OH := hidp (OH.out.later hX)
 replace HB := hidp (HB.out.trans (hX.mono HB.out.size))
 clear hX
 go_upto_region 3 with (refine wpList_store_mid rfl 99 (.tmp 10) (.tmp 19) rfl (V1.heap.size) 0 cs10.toArray rfl rfl (by simpa [hlen10] using hth) (by simpa using hi10) (all_oneCell_toArray hone10) ?_)
 clear hth
 generalize ((V1.alloc (.cells zb16 99)).setCells V1.heap.size 0 cs10) = W2 at *
 generalize V1.heap.size = b10 at *
 clear HC10 hone10 hlen10 hi10
 go_wp2_with fail
 have HRL : Hid (RdL (W2.alloc (.cells #[.slice (some ⟨gh, 0, none⟩) lt lt, .slice (some ⟨b10, 0, none⟩) 16 16] 28)) (some ⟨W2.heap.size, 0, none⟩) 2 [H, TG]) := RdL.two W2 _ _ _ _ _ _ _ _ 28 OH.out.rd (A10.out.rd_all HTn.out.byt 16 (by decide))
 have hX := bel1 W2 (.cells #[.slice (some ⟨gh, 0, none⟩) lt lt, .slice (some ⟨b10, 0, none⟩) 16 16] 28)
 replace HB := hidp (HB.out.trans (hX.mono HB.out.size))
 clear hX
 have HF : Hid ([H, TG].flatten = se6 key nonce ad text) := by unfold Hid se6; rw [HTG.out, HH.out]; simp
 have hfl : [H, TG].flatten.length = lt + 16 := by rw [HF.out, se6_len, HLT.out]
 refine (join_l _ _ _ _ _ HRL.out (by decide) (by rw [hfl]; omega) (by rw [HF.out]; exact se6_byt _ _ _ HBT.out)).mono ?_
 rintro e V3 ⟨gj, T3, Xj, rfl, HTj, HXj, HOj, hgj, hb⟩
 have HT3 : Hid (T3 = lt + 16) := by unfold Hid; rw [HTj.out, hfl]
 have HXE : Hid (Xj = se6 key nonce ad text) := by unfold Hid; rw [HXj.out, HF.out]
 have hgw : w.heap.size ≤ gj := Nat.le_trans HB.out.size hgj
 replace HB := hidp (HB.out.trans (hb.mono HB.out.size))
 clear hb
 clear HTj HXj HF hfl HRL OH A10 HTG HTn HH hgj
 go_wp2
 go_ret
 exact ⟨gj, T3, Xj, rfl, HT3, HXE, HOj, hgw, HB.out⟩
end Go.Proofs.YtmibjgkakolhiaaGreatDoor
