/-
  Several texts of one's own, laid together. No statement of the seat is proved here.
-/
import Derived.Test.YtlnbjehimabaiaaGreatDoorPk1
import Derived.Test.YtlnbjehimabaiaaGreatDoorPk40
import Derived.Test.YtlnbjehimabaiaaGreatDoorPk3
/-
 What aead's tagOf does. No statement of the seat is proved here.
-/
namespace Go.Proofs.YtlnbjehimabaiaaGreatDoor
open Go.RowKit
set_option maxRecDepth 8000

set_option maxHeartbeats 4000000 in
theorem tagof_c (key nonce : List Int) (aa : Option Addr) (la ca : Nat) (ad : List Int) (ah : Option Addr) (lh ch : Nat) (hid : List Int) (hk : Bn 32 key) (hn : Bn 12 nonce) (w : World) (hra : Rd w aa la ca ad) (hrh : Rd w ah lh ch hid) (hm : la + lh + 46 ≤ 281474976710656) :
  Calls Tryz.prog 85 #[(.agg (List.map (Value.int .u8) key).toArray), (.agg (List.map (Value.int .u8) nonce).toArray), .slice aa la ca, .slice ah lh ch] w fun e w' => ∃ X, e = .returned (.agg (List.map (Value.int .u8) X).toArray) ∧ Hid (X = tt6 key nonce ad hid) ∧ Hid (Bn 16 X) ∧ Below w.heap.size w w' := by
 have HRA : Hid (Rd w aa la ca ad) := hra
 have HRH : Hid (Rd w ah lh ch hid) := hrh
 have HLA : Hid (ad.length = la) := hra.hlen
 have HLH : Hid (hid.length = lh) := hrh.hlen
 have HBA : Hid (Byt ad) := hra.byt
 have HBH : Hid (Byt hid) := hrh.byt
 clear hra hrh
 have hwa : IntKind.u64.wrap (la : Int) = (la : Int) := by rw [IntKind.wrap_u64]; omega
 have hwh : IntKind.u64.wrap (lh : Int) = (lh : Int) := by rw [IntKind.wrap_u64]; omega
 have HK : Hid (Bn 32 key) := hk
 have HN : Hid (Bn 12 nonce) := hn
 clear hk hn
 obtain ⟨_, _, hiK⟩ := bn32_cells HK.out
 obtain ⟨_, _, hiN⟩ := bn12_cells HN.out
 go_enter Tryz.func85, Tryz.ntmps85
 go_upto_region 1 with fail
 have AK : Hid (Ar (((w.alloc (.cells (List.map (Value.int .u8) key).toArray 30)).alloc (.cells (List.map (Value.int .u8) nonce).toArray 91)).alloc (.cells zb16 122)) w.heap.size 32 (List.map (Value.int .u8) key)) := (ar_box w _ 32 HK.out.map_len _).later (bel2 _ _ _)
 have AN : Hid (Ar (((w.alloc (.cells (List.map (Value.int .u8) key).toArray 30)).alloc (.cells (List.map (Value.int .u8) nonce).toArray 91)).alloc (.cells zb16 122)) (w.heap.size + 1) 12 (List.map (Value.int .u8) nonce)) := by have := (ar_box (w.alloc (.cells (List.map (Value.int .u8) key).toArray 30)) _ 12 HN.out.map_len 91).later (bel1 _ (.cells zb16 122)); simpa [Hid] using this
 have AD : Hid ((((w.alloc (.cells (List.map (Value.int .u8) key).toArray 30)).alloc (.cells (List.map (Value.int .u8) nonce).toArray 91)).alloc (.cells zb16 122)).there (w.heap.size + 1 + 1) 0 16) := by have := there_new ((w.alloc (.cells (List.map (Value.int .u8) key).toArray 30)).alloc (.cells (List.map (Value.int .u8) nonce).toArray 91)) 16 zb16 rfl 122; simpa [Hid] using this
 have HB : Hid (Below w.heap.size w (((w.alloc (.cells (List.map (Value.int .u8) key).toArray 30)).alloc (.cells (List.map (Value.int .u8) nonce).toArray 91)).alloc (.cells zb16 122))) := bel3 _ _ _ _
 generalize (((w.alloc (.cells (List.map (Value.int .u8) key).toArray 30)).alloc (.cells (List.map (Value.int .u8) nonce).toArray 91)).alloc (.cells zb16 122)) = W0 at *
 have k1 : w.heap.size < w.heap.size + 1 := by omega
 have k2 : w.heap.size + 1 < w.heap.size + 1 + 1 := by omega
 generalize hq1 : w.heap.size + 1 = q1 at *
 generalize hq2 : q1 + 1 = q2 at *
 replace HRA := hidp (HRA.out.below HB.out)
 replace HRH := hidp (HRH.out.below HB.out)
 go_wp2_with (first
 | (refine wpList_load_mid rfl 30 (.tmp 4) rfl w.heap.size 0 rfl (List.map (Value.int .u8) key) _ AK.out.rng Tryz.underlying30 rfl hiK ?_)
 | (refine wpList_load_mid rfl 91 (.tmp 5) rfl q1 0 rfl (List.map (Value.int .u8) nonce) _ AN.out.rng Tryz.underlying91 rfl hiN ?_))
 refine (onekey_c key nonce HK.out HN.out _).mono ?_
 rintro e V ⟨X1, rfl, HX1, HXn, hb⟩
 replace HRA := hidp (HRA.out.below hb)
 replace HRH := hidp (HRH.out.below hb)
 replace AD : Hid (V.there q2 0 16) := there_later hb AD.out
 replace HB := hidp (HB.out.trans (hb.mono HB.out.size))
 clear hb
 clear AK AN hiK hiN
 go_wp2_with fail
 refine (filling_c aa la ca (by omega) _).mono ?_
 rintro e V1 ⟨g1, m1, rfl, hm1, HM1, Og1, -, hb⟩
 replace HRA := hidp (HRA.out.below hb)
 replace HRH := hidp (HRH.out.below hb)
 replace AD : Hid (V1.there q2 0 16) := there_later hb AD.out
 replace HB := hidp (HB.out.trans (hb.mono HB.out.size))
 clear hb
 go_wp2_with fail
 refine (filling_c ah lh ch (by omega) _).mono ?_
 rintro e V2 ⟨g2, m2, rfl, hm2, HM2, Og2, -, hb⟩
 replace HRA := hidp (HRA.out.below hb)
 replace HRH := hidp (HRH.out.below hb)
 replace AD : Hid (V2.there q2 0 16) := there_later hb AD.out
 replace Og1 := hidp (Og1.out.later hb)
 replace HB := hidp (HB.out.trans (hb.mono HB.out.size))
 clear hb
 go_wp2_with fail
 refine (put64_g (la : Int) _ ⟨by omega, by omega⟩).mono ?_
 rintro e V3 ⟨g3, rfl, HP1, hb⟩
 replace HRA := hidp (HRA.out.below hb)
 replace HRH := hidp (HRH.out.below hb)
 replace AD : Hid (V3.there q2 0 16) := there_later hb AD.out
 replace Og1 := hidp (Og1.out.later hb)
 replace Og2 := hidp (Og2.out.later hb)
 replace HB := hidp (HB.out.trans (hb.mono HB.out.size))
 clear hb
 go_wp2_with fail
 refine (put64_g (lh : Int) _ ⟨by omega, by omega⟩).mono ?_
 rintro e V5 ⟨g4, rfl, HP2, hb⟩
 replace HRA := hidp (HRA.out.below hb)
 replace HRH := hidp (HRH.out.below hb)
 replace AD : Hid (V5.there q2 0 16) := there_later hb AD.out
 replace Og1 := hidp (Og1.out.later hb)
 replace Og2 := hidp (Og2.out.later hb)
 replace HP1 := hidp (HP1.out.below hb)
 replace HB := hidp (HB.out.trans (hb.mono HB.out.size))
 clear hb
 go_wp2_with fail
 have HRL : Hid (RdL (V5.alloc (.cells #[.slice aa la ca, .slice (some ⟨g1, 0, none⟩) m1 m1, .slice ah lh ch, .slice (some ⟨g2, 0, none⟩) m2 m2, .slice (some ⟨g3, 0, none⟩) 8 8, .slice (some ⟨g4, 0, none⟩) 8 8] 25)) (some ⟨V5.heap.size, 0, none⟩) 6 [ad, List.replicate m1 0, hid, List.replicate m2 0, lay 8 (la : Int), lay 8 (lh : Int)]) := RdL.six V5 _ _ _ _ _ _ _ _ _ _ _ _ _ _ _ _ _ _ _ _ _ _ _ _ 25 HRA.out Og1.out.rd HRH.out Og2.out.rd HP1.out HP2.out
 have hX := bel1 V5 (.cells #[.slice aa la ca, .slice (some ⟨g1, 0, none⟩) m1 m1, .slice ah lh ch, .slice (some ⟨g2, 0, none⟩) m2 m2, .slice (some ⟨g3, 0, none⟩) 8 8, .slice (some ⟨g4, 0, none⟩) 8 8] 25)
 replace AD : Hid ((V5.alloc (.cells #[.slice aa la ca, .slice (some ⟨g1, 0, none⟩) m1 m1, .slice ah lh ch, .slice (some ⟨g2, 0, none⟩) m2 m2, .slice (some ⟨g3, 0, none⟩) 8 8, .slice (some ⟨g4, 0, none⟩) 8 8] 25)).there q2 0 16) := there_later hX AD.out
 replace HB := hidp (HB.out.trans (hX.mono HB.out.size))
 clear hX
 have HMT : Hid (mt6 ad hid = [ad, List.replicate m1 0, hid, List.replicate m2 0, lay 8 (la : Int), lay 8 (lh : Int)].flatten) := by unfold Hid mt6 ml6; rw [HLA.out, HLH.out, ← HM1.out, ← HM2.out]
 have hml : (mt6 ad hid).length ≤ 281474976710656 := by
  have h1 := fl6_lt ad.length
  have h2 := fl6_lt hid.length
  rw [mt6_len, HLA.out, HLH.out]
  rw [HLA.out] at h1
  rw [HLH.out] at h2
  omega
 refine (join_l _ _ _ _ _ HRL.out (by decide) (by rw [← HMT.out]; exact hml) (by rw [← HMT.out]; exact mt6_byt HBA.out HBH.out)).mono ?_
 rintro e V6 ⟨gj, T6, Xj, rfl, HTj, HXj, HOj, -, hb⟩
 replace AD : Hid (V6.there q2 0 16) := there_later hb AD.out
 replace HB := hidp (HB.out.trans (hb.mono HB.out.size))
 clear hb
 have hT6 : T6 ≤ 281474976710656 := by rw [HTj.out, ← HMT.out]; exact hml
 replace HXj : Hid (Xj = mt6 ad hid) := by unfold Hid; rw [HXj.out, HMT.out]
 clear HTj HMT hml HRL Og1 Og2 HP1 HP2
 go_wp2_with fail
 refine (tag_c (some ⟨gj, 0, none⟩) T6 T6 X1 Xj HXn.out _ HOj.out.rd hT6).mono ?_
 rintro e V7 ⟨TG, rfl, HTG, hTG, hb⟩
 have HTn : Hid (Bn 16 TG) := hTG
 have HTE : Hid (TG = tt6 key nonce ad hid) := by unfold Hid tt6; rw [HTG.out, HX1.out, HXj.out]
 clear hTG HTG HX1 HXj HOj
 replace AD : Hid (V7.there q2 0 16) := there_later hb AD.out
 replace HB := hidp (HB.out.trans (hb.mono HB.out.size))
 clear hb
 obtain ⟨hlenE, honeE, hiE⟩ := bn16_cells HTn.out
 obtain ⟨csE, hcs⟩ : ∃ cs, cs = (List.map (Value.int .u8) TG) := ⟨_, rfl⟩
 have HE : Hid (csE = (List.map (Value.int .u8) TG)) := hcs
 rw [← hcs] at hlenE honeE hiE ⊢
 clear hcs
 go_wp2_with (refine wpList_store_mid rfl 122 (.tmp 8) (.tmp 28) rfl q2 0 csE.toArray rfl rfl (by simpa [hlenE] using AD.out) (by simpa using hiE) (all_oneCell_toArray honeE) ?_)
 have HR2 : Hid ((V7.setCells q2 0 csE).rangeAt q2 0 csE) := World.rangeAt_setCells_same _ _ _ _ (by rw [hlenE]; exact AD.out)
 have hld := run_loadVar_mid (P := Tryz.prog) _ _ 0 122 _ _ HR2.out Tryz.underlying122 rfl hiE
 exact bodyPost_ret (v := .agg csE.toArray) (by simp [results, Tryz.results85]; exact hld) rfl ⟨TG, by rw [HE.out], HTE, HTn, below_setCells _ (by omega) _ _ _ HB.out⟩
end Go.Proofs.YtlnbjehimabaiaaGreatDoor
/-
 What aead's Seal does. No statement of the seat is proved here.
-/
namespace Go.Proofs.YtlnbjehimabaiaaGreatDoor
open Go.RowKit
set_option maxRecDepth 8000

set_option maxHeartbeats 4000000 in
theorem seal_c (key nonce : List Int) (aa : Option Addr) (la ca : Nat) (ad : List Int) (at' : Option Addr) (lt ct : Nat) (text : List Int) (hk : Bn 32 key) (hn : Bn 12 nonce) (w : World) (hra : Rd w aa la ca ad) (hrt : Rd w at' lt ct text) (ha : la ≤ 140737488351232) (hm : lt ≤ 140737488351232) :
  Calls Tryz.prog 55 #[(.agg (List.map (Value.int .u8) key).toArray), (.agg (List.map (Value.int .u8) nonce).toArray), .slice aa la ca, .slice at' lt ct] w fun e w' => ∃ g m X, e = .returned (.slice (some ⟨g, 0, none⟩) m m) ∧ Hid (m = lt + 16) ∧ Hid (X = se6 key nonce ad text) ∧ Hid (Ow w' g m X) ∧ w.heap.size ≤ g ∧ Below w.heap.size w w' := by
 have HRA : Hid (Rd w aa la ca ad) := hra
 have HRT : Hid (Rd w at' lt ct text) := hrt
 have HLT : Hid (text.length = lt) := hrt.hlen
 have HBT : Hid (Byt text) := hrt.byt
 clear hra hrt
 have HK : Hid (Bn 32 key) := hk
 have HN : Hid (Bn 12 nonce) := hn
 clear hk hn
 obtain ⟨_, _, hiK⟩ := bn32_cells HK.out
 obtain ⟨_, _, hiN⟩ := bn12_cells HN.out
 go_enter Tryz.func55, Tryz.ntmps55
 go_upto_region 1 with fail
 have AK : Hid (Ar ((w.alloc (.cells (List.map (Value.int .u8) key).toArray 30)).alloc (.cells (List.map (Value.int .u8) nonce).toArray 91)) w.heap.size 32 (List.map (Value.int .u8) key)) := (ar_box w _ 32 HK.out.map_len _).later (bel1 _ _)
 have AN : Hid (Ar ((w.alloc (.cells (List.map (Value.int .u8) key).toArray 30)).alloc (.cells (List.map (Value.int .u8) nonce).toArray 91)) (w.heap.size + 1) 12 (List.map (Value.int .u8) nonce)) := by have := (ar_box (w.alloc (.cells (List.map (Value.int .u8) key).toArray 30)) _ 12 HN.out.map_len 91); simpa [Hid] using this
 have HB : Hid (Below w.heap.size w ((w.alloc (.cells (List.map (Value.int .u8) key).toArray 30)).alloc (.cells (List.map (Value.int .u8) nonce).toArray 91))) := bel2 _ _ _
 generalize ((w.alloc (.cells (List.map (Value.int .u8) key).toArray 30)).alloc (.cells (List.map (Value.int .u8) nonce).toArray 91)) = W0 at *
 have k1 : w.heap.size < w.heap.size + 1 := by omega
 generalize hq1 : w.heap.size + 1 = q1 at *
 replace HRA := hidp (HRA.out.below HB.out)
 replace HRT := hidp (HRT.out.below HB.out)
 go_wp2_with (first
 | (refine wpList_load_mid rfl 30 (.tmp 4) rfl w.heap.size 0 rfl (List.map (Value.int .u8) key) _ AK.out.rng Tryz.underlying30 rfl hiK ?_)
 | (refine wpList_load_mid rfl 91 (.tmp 5) rfl q1 0 rfl (List.map (Value.int .u8) nonce) _ AN.out.rng Tryz.underlying91 rfl hiN ?_))
 refine (apply_o key 1 nonce at' lt ct text HK.out ⟨by decide, by decide⟩ HN.out _ HRT.out hm).mono ?_
 rintro e V ⟨gh, H, rfl, HH, OH, -, hb⟩
 clear HRT
 replace AK := hidp (AK.out.later hb)
 replace AN := hidp (AN.out.later hb)
 replace HRA := hidp (HRA.out.below hb)
 replace HB := hidp (HB.out.trans (hb.mono HB.out.size))
 clear hb
 go_wp2_with (first
 | (refine wpList_load_mid rfl 30 (.tmp 4) rfl w.heap.size 0 rfl (List.map (Value.int .u8) key) _ AK.out.rng Tryz.underlying30 rfl hiK ?_)
 | (refine wpList_load_mid rfl 91 (.tmp 5) rfl q1 0 rfl (List.map (Value.int .u8) nonce) _ AN.out.rng Tryz.underlying91 rfl hiN ?_))
 refine (tagof_c key nonce aa la ca ad (some ⟨gh, 0, none⟩) lt lt H HK.out HN.out _ HRA.out OH.out.rd (by omega)).mono ?_
 rintro e V1 ⟨TG, rfl, HTG, HTn, hb⟩
 clear AK AN HRA hiK hiN
 replace OH := hidp (OH.out.later hb)
 replace HB := hidp (HB.out.trans (hb.mono HB.out.size))
 clear hb
 obtain ⟨hlen10, hone10, hi10⟩ := bn16_cells HTn.out
 obtain ⟨cs10, hcs⟩ : ∃ cs, cs = (List.map (Value.int .u8) TG) := ⟨_, rfl⟩
 rw [← hcs] at hlen10 hone10 hi10 ⊢
 have HC10 : Hid (cs10 = (List.map (Value.int .u8) TG)) := hcs
 clear hcs
 have hth := there_new V1 16 zb16 rfl 122
 have A10 : Hid (Ar ((V1.alloc (.cells zb16 122)).setCells V1.heap.size 0 cs10) V1.heap.size 16 (List.map (Value.int .u8) TG)) := by rw [← HC10.out]; exact ar_var _ _ 16 rfl _ _ hlen10
 have hX : Below V1.heap.size V1 ((V1.alloc (.cells zb16 122)).setCells V1.heap.size 0 cs10) := bel_var _ _ _ _
 have hbs10 : w.heap.size ≤ V1.heap.size := HB.out.size
 replace OH := hidp (OH.out.later hX)
 replace HB := hidp (HB.out.trans (hX.mono HB.out.size))
 clear hX
 go_upto_region 3 with (refine wpList_store_mid rfl 122 (.tmp 10) (.tmp 19) rfl (V1.heap.size) 0 cs10.toArray rfl rfl (by simpa [hlen10] using hth) (by simpa using hi10) (all_oneCell_toArray hone10) ?_)
 clear hth
 generalize ((V1.alloc (.cells zb16 122)).setCells V1.heap.size 0 cs10) = W2 at *
 generalize V1.heap.size = b10 at *
 clear HC10 hone10 hlen10 hi10
 go_wp2_with fail
 have HRL : Hid (RdL (W2.alloc (.cells #[.slice (some ⟨gh, 0, none⟩) lt lt, .slice (some ⟨b10, 0, none⟩) 16 16] 25)) (some ⟨W2.heap.size, 0, none⟩) 2 [H, TG]) := RdL.two W2 _ _ _ _ _ _ _ _ 25 OH.out.rd (A10.out.rd_all HTn.out.byt 16 (by decide))
 have hX := bel1 W2 (.cells #[.slice (some ⟨gh, 0, none⟩) lt lt, .slice (some ⟨b10, 0, none⟩) 16 16] 25)
 replace HB := hidp (HB.out.trans (hX.mono HB.out.size))
 clear hX
 have HF : Hid ([H, TG].flatten = se6 key nonce ad text) := by unfold Hid se6; rw [HTG.out, HH.out]; simp
 have hfl : [H, TG].flatten.length = lt + 16 := by rw [HF.out, se6_len, HLT.out]
 refine (join_l _ _ _ _ _ HRL.out (by decide) (by rw [hfl]; omega) (by rw [HF.out]; exact se6_byt _ _ _ HBT.out)).mono ?_
 rintro e V3 ⟨gj, T3, Xj, rfl, HTj, HXj, HOj, hgj, hb⟩
 have HT3 : Hid (T3 = lt + 16) := by unfold Hid; rw [HTj.out, hfl]
 have HXE : Hid (Xj = se6 key nonce ad text) := by unfold Hid; rw [HXj.out, HF.out]
 have hgw : w.heap.size ≤ gj := Nat.le_trans HB.out.size hgj
 replace HB := hidp (HB.out.trans (hb.mono HB.out.size))
 clear hb
 clear HTj HXj HF hfl HRL OH A10 HTG HTn HH hgj
 go_wp2
 go_ret
 exact ⟨gj, T3, Xj, rfl, HT3, HXE, HOj, hgw, HB.out⟩
end Go.Proofs.YtlnbjehimabaiaaGreatDoor
/-
 What aead's Open does. No statement of the seat is proved here.
-/
namespace Go.Proofs.YtlnbjehimabaiaaGreatDoor
open Go.RowKit
set_option maxRecDepth 8000

set_option maxHeartbeats 4000000 in
theorem open_short (key nonce : List Int) (aa : Option Addr) (la ca : Nat) (ad : List Int) (ab : Option Addr) (lb cb : Nat) (box : List Int) (w : World) (hrb : Rd w ab lb cb box) (hlt : lb < 16) :
  Calls Tryz.prog 57 #[(.agg (List.map (Value.int .u8) key).toArray), (.agg (List.map (Value.int .u8) nonce).toArray), .slice aa la ca, .slice ab lb cb] w fun e w' => ∃ a' m c X E, e = .returned (.tuple #[.slice a' m c, .int .i64 E]) ∧ Hid (E = er6 key nonce ad box) ∧ Hid (X = op6 key nonce ad box) ∧ Hid (Rd w' a' m c X) ∧ Fr w.heap.size a' m ∧ Below w.heap.size w w' := by
 have HE : Hid (er6 key nonce ad box = 7) := by unfold Hid er6; rw [if_pos (by rw [hrb.hlen]; exact hlt)]
 have hlt' : (lb : Int) < 16 := by omega
 clear hrb
 go_enter Tryz.func57, Tryz.ntmps57
 go_wp2
 go_ret2
 refine ⟨none, 0, 0, [], 7, rfl, HE.out.symm, ?_, Rd.nil _ _ _ (fun _ => rfl), fr_nil, bel2 _ _ _⟩
 unfold Hid
 rw [op6_not _ _ _ _ (by rw [HE.out]; decide)]

set_option maxHeartbeats 8000000 in
theorem open_long (key nonce : List Int) (aa : Option Addr) (la ca : Nat) (ad : List Int) (b off lb cb : Nat) (box : List Int) (hk : Bn 32 key) (hn : Bn 12 nonce) (w : World) (hra : Rd w aa la ca ad) (hrb : Rd w (some ⟨b, off, none⟩) lb cb box) (ha : la ≤ 140737488351232) (hm : lb ≤ 140737488351248) (hge : ¬ lb < 16) :
  Calls Tryz.prog 57 #[(.agg (List.map (Value.int .u8) key).toArray), (.agg (List.map (Value.int .u8) nonce).toArray), .slice aa la ca, .slice (some ⟨b, off, none⟩) lb cb] w fun e w' => ∃ a' m c X E, e = .returned (.tuple #[.slice a' m c, .int .i64 E]) ∧ Hid (E = er6 key nonce ad box) ∧ Hid (X = op6 key nonce ad box) ∧ Hid (Rd w' a' m c X) ∧ Fr w.heap.size a' m ∧ Below w.heap.size w w' := by
 have HRA : Hid (Rd w aa la ca ad) := hra
 have HRB : Hid (Rd w (some ⟨b, off, none⟩) lb cb box) := hrb
 have hle := hrb.hle
 have HLB : Hid (box.length = lb) := hrb.hlen
 clear hra hrb
 obtain ⟨n, hnn⟩ : ∃ n, n = lb - 16 := ⟨_, rfl⟩
 have HLN : Hid (lb = n + 16) := by unfold Hid; omega
 have hnl : n ≤ lb := by omega
 have hn1 : (lb : Int) - 16 = (n : Int) := by omega
 have hn2 : (n : Int) ≤ cb := by omega
 have hn4 : (n : Int) ≤ lb := by omega
 have hn3 : (n : Int).toNat = n := by omega
 have hn5 : ¬ cb = n := by omega
 have hn6 : lb - n = 16 := by omega
 have hge' : ¬ (lb : Int) < 16 := by omega
 have HER : Hid (er6 key nonce ad box = if tt6 key nonce ad (box.take n) = box.drop n then 0 else 8) := by unfold Hid er6; rw [HLB.out, if_neg hge, ← hnn]
 have HOP : Hid (er6 key nonce ad box = 0 → op6 key nonce ad box = ap key 1 nonce (box.take n)) := fun h => by unfold op6; rw [if_pos h, HLB.out, ← hnn]
 clear hnn
 have HK : Hid (Bn 32 key) := hk
 have HN : Hid (Bn 12 nonce) := hn
 clear hk hn
 obtain ⟨_, _, hiK⟩ := bn32_cells HK.out
 obtain ⟨_, _, hiN⟩ := bn12_cells HN.out
 go_enter Tryz.func57, Tryz.ntmps57
 go_upto_region 1 with fail
 have AK : Hid (Ar ((w.alloc (.cells (List.map (Value.int .u8) key).toArray 30)).alloc (.cells (List.map (Value.int .u8) nonce).toArray 91)) w.heap.size 32 (List.map (Value.int .u8) key)) := (ar_box w _ 32 HK.out.map_len _).later (bel1 _ _)
 have AN : Hid (Ar ((w.alloc (.cells (List.map (Value.int .u8) key).toArray 30)).alloc (.cells (List.map (Value.int .u8) nonce).toArray 91)) (w.heap.size + 1) 12 (List.map (Value.int .u8) nonce)) := by have := (ar_box (w.alloc (.cells (List.map (Value.int .u8) key).toArray 30)) _ 12 HN.out.map_len 91); simpa [Hid] using this
 have HB : Hid (Below w.heap.size w ((w.alloc (.cells (List.map (Value.int .u8) key).toArray 30)).alloc (.cells (List.map (Value.int .u8) nonce).toArray 91))) := bel2 _ _ _
 generalize ((w.alloc (.cells (List.map (Value.int .u8) key).toArray 30)).alloc (.cells (List.map (Value.int .u8) nonce).toArray 91)) = W0 at *
 have k1 : w.heap.size < w.heap.size + 1 := by omega
 generalize hq1 : w.heap.size + 1 = q1 at *
 replace HRA := hidp (HRA.out.below HB.out)
 replace HRB := hidp (HRB.out.below HB.out)
 go_upto_region 4 with fail
 go_cut [11] from 18 (fun tv wx => ∃ (b : Nat) (X : List Int), tv = .pointer (some ⟨b, 0, none⟩) ∧ Hid (X = tt6 key nonce ad (box.take n)) ∧ Hid (Bn 16 X) ∧ Hid (Ar wx b 16 (List.map (Value.int .u8) X)) ∧ W0.heap.size ≤ b ∧ Hid (Below W0.heap.size W0 wx))
 case first =>
  refine wp_region_noPanic ?_
  refine wp_region_held_drew (S := Ext W0) (by kernel_rfl) (Ext.refl _).drew (fun hH => ?_)
  change wpAnyH _ _ _ _ _ _ #[false, false, false, false, false, false, false, false, false] _ _
  refine tnl 0 (.agg (List.map (Value.int .u8) key).toArray) ?_ (hy := by exact yieldsIf_load_mid (by rfl) 30 (.tmp 4) rfl w.heap.size 0 rfl (List.map (Value.int .u8) key) _ (fun u hu => range_later hu AK.out.rng) Tryz.underlying30 rfl hiK)
  refine tnl 1 (.agg (List.map (Value.int .u8) nonce).toArray) ?_ (hy := by exact yieldsIf_load_mid (by rfl) 91 (.tmp 5) rfl q1 0 rfl (List.map (Value.int .u8) nonce) _ (fun u hu => range_later hu AN.out.rng) Tryz.underlying91 rfl hiN)
  refine tn 2 ?_
  refine tn 3 ?_
  refine tn 4 ?_
  refine tn 5 ?_
  generalize W0.drew = y0 at *
  refine rdy2 6 7 (fun K hK => ?sd2) (fun K hK => ?sd3)
  case sd2 =>
   go_simp
   refine (tagof_c key nonce aa la ca ad (some ⟨b, off, none⟩) n cb (box.take n) HK.out HN.out _ (HRA.out.below hH) ((HRB.out.cut n hnl).below hH) (by omega)).mono ?_
   rintro e V5 ⟨TG, rfl, HTG, HTn, hb⟩
   refine ko hK (hH.trans hb) fun hH => ?_; clear hK K
   clear hb
   refine rdy 7 (fun K hK => ?sd6)
   case sd6 =>
    go_simp
    have hLw : W0.heap.size ≤ V5.heap.size := hH.size
    have hD : Hid ((V5.alloc (.cells zb16 122)).there V5.heap.size 0 16) := there_new V5 16 zb16 rfl 122
    have hb := bel1 V5 (.cells zb16 122)
    refine ko hK (hH.trans hb) fun hH => ?_; clear hK K
    obtain ⟨x8, hnew⟩ : ∃ v, v = V5.alloc (.cells zb16 122) := ⟨_, rfl⟩
    obtain ⟨bw, hbw⟩ : ∃ v, v = V5.heap.size := ⟨_, rfl⟩
    rw [← hnew] at hb hD hH ⊢
    rw [← hbw] at hD hLw ⊢
    clear hb hnew hbw
    obtain ⟨hlenw, honew, hiw⟩ := bn16_cells HTn.out
    obtain ⟨csw, hcsw⟩ : ∃ cs, cs = (List.map (Value.int .u8) TG) := ⟨_, rfl⟩
    rw [← hcsw] at hlenw honew hiw ⊢
    have HCW : Hid (csw = (List.map (Value.int .u8) TG)) := hcsw
    clear hcsw
    refine rdy 8 (fun K hK => ?_)
    refine wp_store_mid 122 (.tmp 11) (.tmp 24) rfl bw 0 csw.toArray rfl rfl (by simpa [hlenw] using hD.out) (by simpa using hiw) (all_oneCell_toArray honew) ?_
    refine ko hK (below_setCells _ (by omega) _ _ _ hH) fun hH => ?_; clear hK K
    refine wpAnyH_done (by kernel_rfl) ?_ _
    refine NoPanic.normal ?_
    go_wp2_with fail
    go_meet
    case rel => exact ⟨bw, TG, rfl, HTG, HTn.out, by rw [← HCW.out]; exact Ar.all_set hD.out hlenw, hLw, hH⟩
  case sd3 =>
   go_simp
   have hLw : W0.heap.size ≤ y0.heap.size := hH.size
   have hD : Hid ((y0.alloc (.cells zb16 122)).there y0.heap.size 0 16) := there_new y0 16 zb16 rfl 122
   have hb := bel1 y0 (.cells zb16 122)
   refine ko hK (hH.trans hb) fun hH => ?_; clear hK K
   obtain ⟨x11, hnew⟩ : ∃ v, v = y0.alloc (.cells zb16 122) := ⟨_, rfl⟩
   obtain ⟨bw, hbw⟩ : ∃ v, v = y0.heap.size := ⟨_, rfl⟩
   rw [← hnew] at hb hD hH ⊢
   rw [← hbw] at hD hLw ⊢
   clear hb hnew hbw
   refine rdy 6 (fun K hK => ?sd12)
   case sd12 =>
    go_simp
    refine (tagof_c key nonce aa la ca ad (some ⟨b, off, none⟩) n cb (box.take n) HK.out HN.out _ (HRA.out.below hH) ((HRB.out.cut n hnl).below hH) (by omega)).mono ?_
    rintro e V14 ⟨TG, rfl, HTG, HTn, hb⟩
    refine ko hK (hH.trans hb) fun hH => ?_; clear hK K
    replace hD : Hid (V14.there bw 0 16) := there_later hb hD.out
    clear hb
    obtain ⟨hlenw, honew, hiw⟩ := bn16_cells HTn.out
    obtain ⟨csw, hcsw⟩ : ∃ cs, cs = (List.map (Value.int .u8) TG) := ⟨_, rfl⟩
    rw [← hcsw] at hlenw honew hiw ⊢
    have HCW : Hid (csw = (List.map (Value.int .u8) TG)) := hcsw
    clear hcsw
    refine rdy 8 (fun K hK => ?_)
    refine wp_store_mid 122 (.tmp 11) (.tmp 24) rfl bw 0 csw.toArray rfl rfl (by simpa [hlenw] using hD.out) (by simpa using hiw) (all_oneCell_toArray honew) ?_
    refine ko hK (below_setCells _ (by omega) _ _ _ hH) fun hH => ?_; clear hK K
    refine wpAnyH_done (by kernel_rfl) ?_ _
    refine NoPanic.normal ?_
    go_wp2_with fail
    go_meet
    case rel => exact ⟨bw, TG, rfl, HTG, HTn.out, by rw [← HCW.out]; exact Ar.all_set hD.out hlenw, hLw, hH⟩
 case rest =>
  obtain ⟨b11, TG, rfl, HTG, HTn, A11, -, hX⟩ := hcut
  generalize wc = W5 at *
  have hb := hX.out
  clear hX
  replace AK := hidp (AK.out.later hb)
  replace AN := hidp (AN.out.later hb)
  replace HRA := hidp (HRA.out.below hb)
  replace HRB := hidp (HRB.out.below hb)
  replace HB := hidp (HB.out.trans (hb.mono HB.out.size))
  clear hb
  have HRD : Hid (Rd W5 (some ⟨b, off + n, none⟩) 16 (cb - n) (box.drop n)) := HRB.out.from n hnl 16 (cb - n) hn6.symm (by omega)
  obtain ⟨bv, HBV⟩ : ∃ bv, Hid (bv = decide (TG = box.drop n)) := ⟨_, rfl⟩
  go_upto_region 5 with fail
  refine wp_region_noPanic ?_
  refine wp_region_held_drew (S := Ext W5) (by kernel_rfl) (Ext.refl _).drew (fun hH => ?_)
  change wpAnyH _ _ _ _ _ _ #[false, false, false, false, false, false] _ _
  refine tn 0 ?_
  refine tn 1 ?_
  refine tn 2 ?_
  refine tn 3 ?_
  refine rdy 4 (fun K hK => ?_)
  go_simp
  refine (same_any (some ⟨b11, 0, none⟩) 16 16 TG (some ⟨b, off + n, none⟩) 16 (cb - n) (box.drop n) _ ((A11.out.later hH).rd_all HTn.out.byt 16 (by decide)) ((HRD.out.below hH)) (by decide) (by decide)).mono ?_
  rintro e V5 ⟨rfl, hb⟩
  rw [← HBV.out]
  refine ko hK (hH.trans hb) fun hH => ?_; clear hK K
  refine tn 5 ?_
  refine wpAnyH_done (by kernel_rfl) ?_ _
  refine NoPanic.normal ?_
  replace hb : Below W5.heap.size W5 V5 := (Below.refl _ _).drew.trans (hb.mono (Nat.le_refl _))
  replace AK := hidp (AK.out.later hb)
  replace AN := hidp (AN.out.later hb)
  replace HRB := hidp (HRB.out.below hb)
  replace HB := hidp (HB.out.trans (hb.mono HB.out.size))
  clear hb
  clear hH A11 HRA HRD
  cases bv
  ·have HNE : Hid (er6 key nonce ad box = 8) := by
    unfold Hid
    rw [HER.out, ← HTG.out, if_neg (of_decide_eq_false HBV.out.symm)]
   clear HBV HER HOP
   go_wp2
   go_ret2
   refine ⟨none, 0, 0, [], 8, rfl, HNE.out.symm, ?_, Rd.nil _ _ _ (fun _ => rfl), fr_nil, HB.out⟩
   unfold Hid
   rw [op6_not _ _ _ _ (by rw [HNE.out]; decide)]
  ·have HEQ : Hid (er6 key nonce ad box = 0) := by
    unfold Hid
    rw [HER.out, ← HTG.out, if_pos (of_decide_eq_true HBV.out.symm)]
   clear HBV HER
   go_upto_region 7 with fail
   refine wp_region_noPanic ?_
   refine wp_region_held_drew (S := Ext V5) (by kernel_rfl) (Ext.refl _).drew (fun hH => ?_)
   change wpAnyH _ _ _ _ _ _ #[false, false, false, false, false, false, false, false] _ _
   refine tnl 0 (.agg (List.map (Value.int .u8) key).toArray) ?_ (hy := by exact yieldsIf_load_mid (by rfl) 30 (.tmp 4) rfl w.heap.size 0 rfl (List.map (Value.int .u8) key) _ (fun u hu => range_later hu AK.out.rng) Tryz.underlying30 rfl hiK)
   refine tnl 1 (.agg (List.map (Value.int .u8) nonce).toArray) ?_ (hy := by exact yieldsIf_load_mid (by rfl) 91 (.tmp 5) rfl q1 0 rfl (List.map (Value.int .u8) nonce) _ (fun u hu => range_later hu AN.out.rng) Tryz.underlying91 rfl hiN)
   refine tn 2 ?_
   refine tn 3 ?_
   refine tn 4 ?_
   refine rdy 5 (fun K hK => ?_)
   go_simp
   refine (apply_o key 1 nonce (some ⟨b, off, none⟩) n cb (box.take n) HK.out ⟨by decide, by decide⟩ HN.out _ ((HRB.out.cut n hnl).below hH) (by omega)).mono ?_
   rintro e V7 ⟨gx, X, rfl, HX, OX, hgx, hb⟩
   have HFR : Hid (w.heap.size ≤ gx) := Nat.le_trans HB.out.size (Nat.le_trans hH.size hgx)
   clear hgx
   refine ko hK (hH.trans hb) fun hH => ?_; clear hK K
   refine tn 6 ?_
   refine tn 7 ?_
   refine wpAnyH_done (by kernel_rfl) ?_ _
   refine NoPanic.normal ?_
   replace hb : Below V5.heap.size V5 V7 := (Below.refl _ _).drew.trans (hb.mono (Nat.le_refl _))
   replace HB := hidp (HB.out.trans (hb.mono HB.out.size))
   clear hb
   clear hH
   go_wp2
   go_ret2
   exact ⟨_, n, n, X, 0, rfl, HEQ.out.symm, by unfold Hid; rw [HOP.out HEQ.out, HX.out], OX.out.rd, fr_at HFR.out, HB.out⟩
theorem open_f (key nonce : List Int) (aa : Option Addr) (la ca : Nat) (ad : List Int) (ab : Option Addr) (lb cb : Nat) (box : List Int) (hk : Bn 32 key) (hn : Bn 12 nonce) (w : World) (hra : Rd w aa la ca ad) (hrb : Rd w ab lb cb box) (ha : la ≤ 140737488351232) (hm : lb ≤ 140737488351248) :
  Calls Tryz.prog 57 #[(.agg (List.map (Value.int .u8) key).toArray), (.agg (List.map (Value.int .u8) nonce).toArray), .slice aa la ca, .slice ab lb cb] w fun e w' => ∃ a' m c X E, e = .returned (.tuple #[.slice a' m c, .int .i64 E]) ∧ Hid (E = er6 key nonce ad box) ∧ Hid (X = op6 key nonce ad box) ∧ Hid (Rd w' a' m c X) ∧ Fr w.heap.size a' m ∧ Below w.heap.size w w' := by
 by_cases h : lb < 16
 ·exact open_short key nonce aa la ca ad ab lb cb box w hrb h
 ·obtain ⟨b, off, rfl, -⟩ := hrb.cell (by omega)
  exact open_long key nonce aa la ca ad b off lb cb box hk hn w hra hrb ha hm h
theorem open_c (key nonce : List Int) (aa : Option Addr) (la ca : Nat) (ad : List Int) (ab : Option Addr) (lb cb : Nat) (box : List Int) (hk : Bn 32 key) (hn : Bn 12 nonce) (w : World) (hra : Rd w aa la ca ad) (hrb : Rd w ab lb cb box) (ha : la ≤ 140737488351232) (hm : lb ≤ 140737488351248) :
  Calls Tryz.prog 57 #[(.agg (List.map (Value.int .u8) key).toArray), (.agg (List.map (Value.int .u8) nonce).toArray), .slice aa la ca, .slice ab lb cb] w fun e w' => ∃ a' m c X E, e = .returned (.tuple #[.slice a' m c, .int .i64 E]) ∧ Hid (E = er6 key nonce ad box) ∧ Hid (X = op6 key nonce ad box) ∧ Hid (Rd w' a' m c X) ∧ Below w.heap.size w w' := by
 refine (open_f key nonce aa la ca ad ab lb cb box hk hn w hra hrb ha hm).mono ?_
 rintro e w' ⟨a', m, c, X, E, rfl, h1, h2, h3, -, h4⟩
 exact ⟨a', m, c, X, E, rfl, h1, h2, h3, h4⟩
end Go.Proofs.YtlnbjehimabaiaaGreatDoor
