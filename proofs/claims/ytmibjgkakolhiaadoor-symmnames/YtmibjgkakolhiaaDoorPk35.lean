/-
  Several texts of one's own, laid together. No statement of the seat is proved here.
-/
import Derived.Test.YtmibjgkakolhiaaDoorA6F
/-
  What aead's tagOf does. No statement of the seat is proved here.
-/
namespace Go.Proofs.YtmibjgkakolhiaaDoor
open Go.RowKit

set_option maxRecDepth 8000 in
set_option maxHeartbeats 4000000 in
theorem tagof_c (key nonce : List Int) (aa : Option Addr) (la ca : Nat) (ad : List Int) (ah : Option Addr) (lh ch : Nat) (hid : List Int) (hk : Bn 32 key) (hn : Bn 12 nonce) (w : World) (hra : Rd w aa la ca ad) (hrh : Rd w ah lh ch hid) (hm : la + lh + 46 ≤ 281474976710656) :
    Calls Tryd.prog 55 #[(.agg (List.map (Value.int .u8) key).toArray), (.agg (List.map (Value.int .u8) nonce).toArray), .slice aa la ca, .slice ah lh ch] w fun e w' => ∃ X, e = .returned (.agg (List.map (Value.int .u8) X).toArray) ∧ Hid (X = tt6 key nonce ad hid) ∧ Hid (Bn 16 X) ∧ Below w.heap.size w w' := by
  have HRA : Hid (Rd w aa la ca ad) := hra
  have HRH : Hid (Rd w ah lh ch hid) := hrh
  have HLA : Hid (ad.length = la) := hra.hlen
  have HLH : Hid (hid.length = lh) := hrh.hlen
  have HBA : Hid (Byt ad) := hra.byt
  have HBH : Hid (Byt hid) := hrh.byt
  clear hra hrh
  have hwa : IntKind.u64.wrap (la : Int) = (la : Int) := by rw [IntKind.wrap_u64]; omega
  have hwh : IntKind.u64.wrap (lh : Int) = (lh : Int) := by rw [IntKind.wrap_u64]; omega
  have HK : Hid (Bn 32 key) := hk
  have HN : Hid (Bn 12 nonce) := hn
  clear hk hn
  obtain ⟨_, _, hiK⟩ := bn32_cells HK.out
  obtain ⟨_, _, hiN⟩ := bn12_cells HN.out
  go_enter Tryd.func55, Tryd.ntmps55
  go_upto_region 1 with fail
  have AK : Hid (Ar (((w.alloc (.cells (List.map (Value.int .u8) key).toArray 27)).alloc (.cells (List.map (Value.int .u8) nonce).toArray 84)).alloc (.cells #[.int .u8 0, .int .u8 0, .int .u8 0, .int .u8 0, .int .u8 0, .int .u8 0, .int .u8 0, .int .u8 0, .int .u8 0, .int .u8 0, .int .u8 0, .int .u8 0, .int .u8 0, .int .u8 0, .int .u8 0, .int .u8 0] 96)) w.heap.size 32 (List.map (Value.int .u8) key)) := (ar_box w _ 32 HK.out.map_len _).later (bel2 _ _ _)
  have AN : Hid (Ar (((w.alloc (.cells (List.map (Value.int .u8) key).toArray 27)).alloc (.cells (List.map (Value.int .u8) nonce).toArray 84)).alloc (.cells #[.int .u8 0, .int .u8 0, .int .u8 0, .int .u8 0, .int .u8 0, .int .u8 0, .int .u8 0, .int .u8 0, .int .u8 0, .int .u8 0, .int .u8 0, .int .u8 0, .int .u8 0, .int .u8 0, .int .u8 0, .int .u8 0] 96)) (w.heap.size + 1) 12 (List.map (Value.int .u8) nonce)) := by have := (ar_box (w.alloc (.cells (List.map (Value.int .u8) key).toArray 27)) _ 12 HN.out.map_len 84).later (bel1 _ (.cells #[.int .u8 0, .int .u8 0, .int .u8 0, .int .u8 0, .int .u8 0, .int .u8 0, .int .u8 0, .int .u8 0, .int .u8 0, .int .u8 0, .int .u8 0, .int .u8 0, .int .u8 0, .int .u8 0, .int .u8 0, .int .u8 0] 96)); simpa [Hid] using this
  have AD : Hid ((((w.alloc (.cells (List.map (Value.int .u8) key).toArray 27)).alloc (.cells (List.map (Value.int .u8) nonce).toArray 84)).alloc (.cells #[.int .u8 0, .int .u8 0, .int .u8 0, .int .u8 0, .int .u8 0, .int .u8 0, .int .u8 0, .int .u8 0, .int .u8 0, .int .u8 0, .int .u8 0, .int .u8 0, .int .u8 0, .int .u8 0, .int .u8 0, .int .u8 0] 96)).there (w.heap.size + 1 + 1) 0 16) := by have := there_new ((w.alloc (.cells (List.map (Value.int .u8) key).toArray 27)).alloc (.cells (List.map (Value.int .u8) nonce).toArray 84)) 16 #[.int .u8 0, .int .u8 0, .int .u8 0, .int .u8 0, .int .u8 0, .int .u8 0, .int .u8 0, .int .u8 0, .int .u8 0, .int .u8 0, .int .u8 0, .int .u8 0, .int .u8 0, .int .u8 0, .int .u8 0, .int .u8 0] rfl 96; simpa [Hid] using this
  have HB : Hid (Below w.heap.size w (((w.alloc (.cells (List.map (Value.int .u8) key).toArray 27)).alloc (.cells (List.map (Value.int .u8) nonce).toArray 84)).alloc (.cells #[.int .u8 0, .int .u8 0, .int .u8 0, .int .u8 0, .int .u8 0, .int .u8 0, .int .u8 0, .int .u8 0, .int .u8 0, .int .u8 0, .int .u8 0, .int .u8 0, .int .u8 0, .int .u8 0, .int .u8 0, .int .u8 0] 96))) := bel3 _ _ _ _
  generalize (((w.alloc (.cells (List.map (Value.int .u8) key).toArray 27)).alloc (.cells (List.map (Value.int .u8) nonce).toArray 84)).alloc (.cells #[.int .u8 0, .int .u8 0, .int .u8 0, .int .u8 0, .int .u8 0, .int .u8 0, .int .u8 0, .int .u8 0, .int .u8 0, .int .u8 0, .int .u8 0, .int .u8 0, .int .u8 0, .int .u8 0, .int .u8 0, .int .u8 0] 96)) = W0 at *
  have k1 : w.heap.size < w.heap.size + 1 := by omega
  have k2 : w.heap.size + 1 < w.heap.size + 1 + 1 := by omega
  generalize hq1 : w.heap.size + 1 = q1 at *
  generalize hq2 : q1 + 1 = q2 at *
  replace HRA : Hid (Rd W0 aa la ca ad) := HRA.out.below HB.out
  replace HRH : Hid (Rd W0 ah lh ch hid) := HRH.out.below HB.out
  go_wp2_with (first
  | (refine wpList_load_mid rfl 27 (.tmp 4) rfl w.heap.size 0 rfl (List.map (Value.int .u8) key) _ AK.out.rng Tryd.underlying27 rfl hiK ?_)
  | (refine wpList_load_mid rfl 84 (.tmp 5) rfl q1 0 rfl (List.map (Value.int .u8) nonce) _ AN.out.rng Tryd.underlying84 rfl hiN ?_))
  refine (onekey_c key nonce HK.out HN.out _).mono ?_
  rintro e V ⟨X1, rfl, HX1, HXn, hb⟩
  replace HRA : Hid (Rd V aa la ca ad) := HRA.out.below hb
  replace HRH : Hid (Rd V ah lh ch hid) := HRH.out.below hb
  replace AD : Hid (V.there q2 0 16) := there_later hb AD.out
  replace HB : Hid (Below w.heap.size w V) := HB.out.trans (hb.mono HB.out.size)
  clear hb
  clear AK AN hiK hiN
  go_wp2_with fail
  refine (filling_c aa la ca (by omega) _).mono ?_
  rintro e V1 ⟨g1, m1, rfl, hm1, HM1, Og1, -, hb⟩
  replace HRA : Hid (Rd V1 aa la ca ad) := HRA.out.below hb
  replace HRH : Hid (Rd V1 ah lh ch hid) := HRH.out.below hb
  replace AD : Hid (V1.there q2 0 16) := there_later hb AD.out
  replace HB : Hid (Below w.heap.size w V1) := HB.out.trans (hb.mono HB.out.size)
  clear hb
  go_wp2_with fail
  refine (filling_c ah lh ch (by omega) _).mono ?_
  rintro e V2 ⟨g2, m2, rfl, hm2, HM2, Og2, -, hb⟩
  replace HRA : Hid (Rd V2 aa la ca ad) := HRA.out.below hb
  replace HRH : Hid (Rd V2 ah lh ch hid) := HRH.out.below hb
  replace AD : Hid (V2.there q2 0 16) := there_later hb AD.out
  replace Og1 : Hid (Ow V2 g1 m1 (List.replicate m1 0)) := Og1.out.later hb
  replace HB : Hid (Below w.heap.size w V2) := HB.out.trans (hb.mono HB.out.size)
  clear hb
  go_wp2_with fail
  refine (put64_g (la : Int) _ ⟨by omega, by omega⟩).mono ?_
  rintro e V3 ⟨g3, rfl, HP1, hb⟩
  replace HRA : Hid (Rd V3 aa la ca ad) := HRA.out.below hb
  replace HRH : Hid (Rd V3 ah lh ch hid) := HRH.out.below hb
  replace AD : Hid (V3.there q2 0 16) := there_later hb AD.out
  replace Og1 : Hid (Ow V3 g1 m1 (List.replicate m1 0)) := Og1.out.later hb
  replace Og2 : Hid (Ow V3 g2 m2 (List.replicate m2 0)) := Og2.out.later hb
  replace HB : Hid (Below w.heap.size w V3) := HB.out.trans (hb.mono HB.out.size)
  clear hb
  go_wp2_with fail
  refine (put64_g (lh : Int) _ ⟨by omega, by omega⟩).mono ?_
  rintro e V5 ⟨g4, rfl, HP2, hb⟩
  replace HRA : Hid (Rd V5 aa la ca ad) := HRA.out.below hb
  replace HRH : Hid (Rd V5 ah lh ch hid) := HRH.out.below hb
  replace AD : Hid (V5.there q2 0 16) := there_later hb AD.out
  replace Og1 : Hid (Ow V5 g1 m1 (List.replicate m1 0)) := Og1.out.later hb
  replace Og2 : Hid (Ow V5 g2 m2 (List.replicate m2 0)) := Og2.out.later hb
  replace HP1 : Hid (Rd V5 (some ⟨g3, 0, none⟩) 8 8 (lay 8 (la : Int))) := HP1.out.below hb
  replace HB : Hid (Below w.heap.size w V5) := HB.out.trans (hb.mono HB.out.size)
  clear hb
  go_wp2_with fail
  have HRL : Hid (RdL (V5.alloc (.cells #[.slice aa la ca, .slice (some ⟨g1, 0, none⟩) m1 m1, .slice ah lh ch, .slice (some ⟨g2, 0, none⟩) m2 m2, .slice (some ⟨g3, 0, none⟩) 8 8, .slice (some ⟨g4, 0, none⟩) 8 8] 35)) (some ⟨V5.heap.size, 0, none⟩) 6 [ad, List.replicate m1 0, hid, List.replicate m2 0, lay 8 (la : Int), lay 8 (lh : Int)]) := RdL.six V5 _ _ _ _ _ _ _ _ _ _ _ _ _ _ _ _ _ _ _ _ _ _ _ _ 35 HRA.out Og1.out.rd HRH.out Og2.out.rd HP1.out HP2.out
  have hX := bel1 V5 (.cells #[.slice aa la ca, .slice (some ⟨g1, 0, none⟩) m1 m1, .slice ah lh ch, .slice (some ⟨g2, 0, none⟩) m2 m2, .slice (some ⟨g3, 0, none⟩) 8 8, .slice (some ⟨g4, 0, none⟩) 8 8] 35)
  replace AD : Hid ((V5.alloc (.cells #[.slice aa la ca, .slice (some ⟨g1, 0, none⟩) m1 m1, .slice ah lh ch, .slice (some ⟨g2, 0, none⟩) m2 m2, .slice (some ⟨g3, 0, none⟩) 8 8, .slice (some ⟨g4, 0, none⟩) 8 8] 35)).there q2 0 16) := there_later hX AD.out
  replace HB : Hid (Below w.heap.size w (V5.alloc (.cells #[.slice aa la ca, .slice (some ⟨g1, 0, none⟩) m1 m1, .slice ah lh ch, .slice (some ⟨g2, 0, none⟩) m2 m2, .slice (some ⟨g3, 0, none⟩) 8 8, .slice (some ⟨g4, 0, none⟩) 8 8] 35))) := HB.out.trans (hX.mono HB.out.size)
  clear hX
  have HMT : Hid (mt6 ad hid = [ad, List.replicate m1 0, hid, List.replicate m2 0, lay 8 (la : Int), lay 8 (lh : Int)].flatten) := by unfold Hid mt6 ml6; rw [HLA.out, HLH.out, ← HM1.out, ← HM2.out]
  have hml : (mt6 ad hid).length ≤ 281474976710656 := by
    have h1 := fl6_lt ad.length
    have h2 := fl6_lt hid.length
    rw [mt6_len, HLA.out, HLH.out]
    rw [HLA.out] at h1
    rw [HLH.out] at h2
    omega
  refine (join_l _ _ _ _ _ HRL.out (by decide) (by rw [← HMT.out]; exact hml) (by rw [← HMT.out]; exact mt6_byt HBA.out HBH.out)).mono ?_
  rintro e V6 ⟨gj, T6, Xj, rfl, HTj, HXj, HOj, -, hb⟩
  replace AD : Hid (V6.there q2 0 16) := there_later hb AD.out
  replace HB : Hid (Below w.heap.size w V6) := HB.out.trans (hb.mono HB.out.size)
  clear hb
  have hT6 : T6 ≤ 281474976710656 := by rw [HTj.out, ← HMT.out]; exact hml
  replace HXj : Hid (Xj = mt6 ad hid) := by unfold Hid; rw [HXj.out, HMT.out]
  clear HTj HMT hml HRL Og1 Og2 HP1 HP2
  go_wp2_with fail
  refine (tag_c (some ⟨gj, 0, none⟩) T6 T6 X1 Xj HXn.out _ HOj.out.rd hT6).mono ?_
  rintro e V7 ⟨TG, rfl, HTG, hTG, hb⟩
  have HTn : Hid (Bn 16 TG) := hTG
  have HTE : Hid (TG = tt6 key nonce ad hid) := by unfold Hid tt6; rw [HTG.out, HX1.out, HXj.out]
  clear hTG HTG HX1 HXj HOj
  replace AD : Hid (V7.there q2 0 16) := there_later hb AD.out
  replace HB : Hid (Below w.heap.size w V7) := HB.out.trans (hb.mono HB.out.size)
  clear hb
  obtain ⟨hlenE, honeE, hiE⟩ := bn16_cells HTn.out
  obtain ⟨csE, hcs⟩ : ∃ cs, cs = (List.map (Value.int .u8) TG) := ⟨_, rfl⟩
  have HE : Hid (csE = (List.map (Value.int .u8) TG)) := hcs
  rw [← hcs] at hlenE honeE hiE ⊢
  clear hcs
  go_wp2_with (refine wpList_store_mid rfl 96 (.tmp 8) (.tmp 28) rfl q2 0 csE.toArray rfl rfl (by simpa [hlenE] using AD.out) (by simpa using hiE) (all_oneCell_toArray honeE) ?_)
  have HR2 : Hid ((V7.setCells q2 0 csE).rangeAt q2 0 csE) := World.rangeAt_setCells_same _ _ _ _ (by rw [hlenE]; exact AD.out)
  have hld := run_loadVar_mid (P := Tryd.prog) _ _ 0 96 _ _ HR2.out Tryd.underlying96 rfl hiE
  exact bodyPost_ret (v := .agg csE.toArray) (by simp [results, Tryd.results55]; exact hld) rfl ⟨TG, by rw [HE.out], HTE, HTn, below_setCells _ (by omega) _ _ _ HB.out⟩
end Go.Proofs.YtmibjgkakolhiaaDoor
/-
  What aead's Seal does. No statement of the seat is proved here.
-/
namespace Go.Proofs.YtmibjgkakolhiaaDoor
open Go.RowKit

set_option maxRecDepth 8000 in
set_option maxHeartbeats 4000000 in
theorem seal_c (key nonce : List Int) (aa : Option Addr) (la ca : Nat) (ad : List Int) (at' : Option Addr) (lt ct : Nat) (text : List Int) (hk : Bn 32 key) (hn : Bn 12 nonce) (w : World) (hra : Rd w aa la ca ad) (hrt : Rd w at' lt ct text) (ha : la ≤ 140737488351232) (hm : lt ≤ 140737488351232) :
    Calls Tryd.prog 45 #[(.agg (List.map (Value.int .u8) key).toArray), (.agg (List.map (Value.int .u8) nonce).toArray), .slice aa la ca, .slice at' lt ct] w fun e w' => ∃ g m X, e = .returned (.slice (some ⟨g, 0, none⟩) m m) ∧ Hid (m = lt + 16) ∧ Hid (X = se6 key nonce ad text) ∧ Hid (Ow w' g m X) ∧ w.heap.size ≤ g ∧ Below w.heap.size w w' := by
  have HRA : Hid (Rd w aa la ca ad) := hra
  have HRT : Hid (Rd w at' lt ct text) := hrt
  have HLT : Hid (text.length = lt) := hrt.hlen
  have HBT : Hid (Byt text) := hrt.byt
  clear hra hrt
  have HK : Hid (Bn 32 key) := hk
  have HN : Hid (Bn 12 nonce) := hn
  clear hk hn
  obtain ⟨_, _, hiK⟩ := bn32_cells HK.out
  obtain ⟨_, _, hiN⟩ := bn12_cells HN.out
  go_enter Tryd.func45, Tryd.ntmps45
  go_upto_region 1 with fail
  have AK : Hid (Ar ((w.alloc (.cells (List.map (Value.int .u8) key).toArray 27)).alloc (.cells (List.map (Value.int .u8) nonce).toArray 84)) w.heap.size 32 (List.map (Value.int .u8) key)) := (ar_box w _ 32 HK.out.map_len _).later (bel1 _ _)
  have AN : Hid (Ar ((w.alloc (.cells (List.map (Value.int .u8) key).toArray 27)).alloc (.cells (List.map (Value.int .u8) nonce).toArray 84)) (w.heap.size + 1) 12 (List.map (Value.int .u8) nonce)) := by have := (ar_box (w.alloc (.cells (List.map (Value.int .u8) key).toArray 27)) _ 12 HN.out.map_len 84); simpa [Hid] using this
  have HB : Hid (Below w.heap.size w ((w.alloc (.cells (List.map (Value.int .u8) key).toArray 27)).alloc (.cells (List.map (Value.int .u8) nonce).toArray 84))) := bel2 _ _ _
  generalize ((w.alloc (.cells (List.map (Value.int .u8) key).toArray 27)).alloc (.cells (List.map (Value.int .u8) nonce).toArray 84)) = W0 at *
  have k1 : w.heap.size < w.heap.size + 1 := by omega
  generalize hq1 : w.heap.size + 1 = q1 at *
  replace HRA : Hid (Rd W0 aa la ca ad) := HRA.out.below HB.out
  replace HRT : Hid (Rd W0 at' lt ct text) := HRT.out.below HB.out
  go_wp2_with (first
  | (refine wpList_load_mid rfl 27 (.tmp 4) rfl w.heap.size 0 rfl (List.map (Value.int .u8) key) _ AK.out.rng Tryd.underlying27 rfl hiK ?_)
  | (refine wpList_load_mid rfl 84 (.tmp 5) rfl q1 0 rfl (List.map (Value.int .u8) nonce) _ AN.out.rng Tryd.underlying84 rfl hiN ?_))
  refine (apply_o key 1 nonce at' lt ct text HK.out ⟨by decide, by decide⟩ HN.out _ HRT.out hm).mono ?_
  rintro e V ⟨gh, H, rfl, HH, OH, -, hb⟩
  clear HRT
  replace AK : Hid (Ar V w.heap.size 32 (List.map (Value.int .u8) key)) := AK.out.later hb
  replace AN : Hid (Ar V q1 12 (List.map (Value.int .u8) nonce)) := AN.out.later hb
  replace HRA : Hid (Rd V aa la ca ad) := HRA.out.below hb
  replace HB : Hid (Below w.heap.size w V) := HB.out.trans (hb.mono HB.out.size)
  clear hb
  go_wp2_with (first
  | (refine wpList_load_mid rfl 27 (.tmp 4) rfl w.heap.size 0 rfl (List.map (Value.int .u8) key) _ AK.out.rng Tryd.underlying27 rfl hiK ?_)
  | (refine wpList_load_mid rfl 84 (.tmp 5) rfl q1 0 rfl (List.map (Value.int .u8) nonce) _ AN.out.rng Tryd.underlying84 rfl hiN ?_))
  refine (tagof_c key nonce aa la ca ad (some ⟨gh, 0, none⟩) lt lt H HK.out HN.out _ HRA.out OH.out.rd (by omega)).mono ?_
  rintro e V1 ⟨TG, rfl, HTG, HTn, hb⟩
  clear AK AN HRA hiK hiN
  replace OH : Hid (Ow V1 gh lt H) := OH.out.later hb
  replace HB : Hid (Below w.heap.size w V1) := HB.out.trans (hb.mono HB.out.size)
  clear hb
  obtain ⟨hlen10, hone10, hi10⟩ := bn16_cells HTn.out
  obtain ⟨cs10, hcs⟩ : ∃ cs, cs = (List.map (Value.int .u8) TG) := ⟨_, rfl⟩
  rw [← hcs] at hlen10 hone10 hi10 ⊢
  have HC10 : Hid (cs10 = (List.map (Value.int .u8) TG)) := hcs
  clear hcs
  have hth := there_new V1 16 #[.int .u8 0, .int .u8 0, .int .u8 0, .int .u8 0, .int .u8 0, .int .u8 0, .int .u8 0, .int .u8 0, .int .u8 0, .int .u8 0, .int .u8 0, .int .u8 0, .int .u8 0, .int .u8 0, .int .u8 0, .int .u8 0] rfl 96
  have A10 : Hid (Ar ((V1.alloc (.cells #[.int .u8 0, .int .u8 0, .int .u8 0, .int .u8 0, .int .u8 0, .int .u8 0, .int .u8 0, .int .u8 0, .int .u8 0, .int .u8 0, .int .u8 0, .int .u8 0, .int .u8 0, .int .u8 0, .int .u8 0, .int .u8 0] 96)).setCells V1.heap.size 0 cs10) V1.heap.size 16 (List.map (Value.int .u8) TG)) := by rw [← HC10.out]; exact ar_var _ _ 16 rfl _ _ hlen10
  have hX : Below V1.heap.size V1 ((V1.alloc (.cells #[.int .u8 0, .int .u8 0, .int .u8 0, .int .u8 0, .int .u8 0, .int .u8 0, .int .u8 0, .int .u8 0, .int .u8 0, .int .u8 0, .int .u8 0, .int .u8 0, .int .u8 0, .int .u8 0, .int .u8 0, .int .u8 0] 96)).setCells V1.heap.size 0 cs10) := bel_var _ _ _ _
  have hbs10 : w.heap.size ≤ V1.heap.size := HB.out.size
  replace OH : Hid (Ow ((V1.alloc (.cells #[.int .u8 0, .int .u8 0, .int .u8 0, .int .u8 0, .int .u8 0, .int .u8 0, .int .u8 0, .int .u8 0, .int .u8 0, .int .u8 0, .int .u8 0, .int .u8 0, .int .u8 0, .int .u8 0, .int .u8 0, .int .u8 0] 96)).setCells V1.heap.size 0 cs10) gh lt H) := OH.out.later hX
  replace HB : Hid (Below w.heap.size w ((V1.alloc (.cells #[.int .u8 0, .int .u8 0, .int .u8 0, .int .u8 0, .int .u8 0, .int .u8 0, .int .u8 0, .int .u8 0, .int .u8 0, .int .u8 0, .int .u8 0, .int .u8 0, .int .u8 0, .int .u8 0, .int .u8 0, .int .u8 0] 96)).setCells V1.heap.size 0 cs10)) := HB.out.trans (hX.mono HB.out.size)
  clear hX
  go_upto_region 3 with (refine wpList_store_mid rfl 96 (.tmp 10) (.tmp 19) rfl (V1.heap.size) 0 cs10.toArray rfl rfl (by simpa [hlen10] using hth) (by simpa using hi10) (all_oneCell_toArray hone10) ?_)
  clear hth
  generalize ((V1.alloc (.cells #[.int .u8 0, .int .u8 0, .int .u8 0, .int .u8 0, .int .u8 0, .int .u8 0, .int .u8 0, .int .u8 0, .int .u8 0, .int .u8 0, .int .u8 0, .int .u8 0, .int .u8 0, .int .u8 0, .int .u8 0, .int .u8 0] 96)).setCells V1.heap.size 0 cs10) = W2 at *
  generalize V1.heap.size = b10 at *
  clear HC10 hone10 hlen10 hi10
  go_wp2_with fail
  have HRL : Hid (RdL (W2.alloc (.cells #[.slice (some ⟨gh, 0, none⟩) lt lt, .slice (some ⟨b10, 0, none⟩) 16 16] 35)) (some ⟨W2.heap.size, 0, none⟩) 2 [H, TG]) := RdL.two W2 _ _ _ _ _ _ _ _ 35 OH.out.rd (A10.out.rd_all HTn.out.byt 16 (by decide))
  have hX := bel1 W2 (.cells #[.slice (some ⟨gh, 0, none⟩) lt lt, .slice (some ⟨b10, 0, none⟩) 16 16] 35)
  replace HB : Hid (Below w.heap.size w (W2.alloc (.cells #[.slice (some ⟨gh, 0, none⟩) lt lt, .slice (some ⟨b10, 0, none⟩) 16 16] 35))) := HB.out.trans (hX.mono HB.out.size)
  clear hX
  have HF : Hid ([H, TG].flatten = se6 key nonce ad text) := by unfold Hid se6; rw [HTG.out, HH.out]; simp
  have hfl : [H, TG].flatten.length = lt + 16 := by rw [HF.out, se6_len, HLT.out]
  refine (join_l _ _ _ _ _ HRL.out (by decide) (by rw [hfl]; omega) (by rw [HF.out]; exact se6_byt _ _ _ HBT.out)).mono ?_
  rintro e V3 ⟨gj, T3, Xj, rfl, HTj, HXj, HOj, hgj, hb⟩
  have HT3 : Hid (T3 = lt + 16) := by unfold Hid; rw [HTj.out, hfl]
  have HXE : Hid (Xj = se6 key nonce ad text) := by unfold Hid; rw [HXj.out, HF.out]
  have hgw : w.heap.size ≤ gj := Nat.le_trans HB.out.size hgj
  replace HB : Hid (Below w.heap.size w V3) := HB.out.trans (hb.mono HB.out.size)
  clear hb
  clear HTj HXj HF hfl HRL OH A10 HTG HTn HH hgj
  go_wp2
  go_ret
  exact ⟨gj, T3, Xj, rfl, HT3, HXE, HOj, hgw, HB.out⟩
end Go.Proofs.YtmibjgkakolhiaaDoor
