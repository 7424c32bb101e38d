/-
  What aead's tagOf does. No statement of the seat is proved here.
-/
import Derived.Test.YtjmdgmbkkkoamaaA6F
namespace Go.Proofs.Ytjmdgmbkkkoamaa
open Go.RowKit

set_option maxRecDepth 8000 in
set_option maxHeartbeats 4000000 in
theorem tagof_c (key nonce : List Int) (aa : Option Addr) (la ca : Nat) (ad : List Int) (ah : Option Addr) (lh ch : Nat) (hid : List Int) (hk : Bn 32 key) (hn : Bn 12 nonce) (w : World) (hra : Rd w aa la ca ad) (hrh : Rd w ah lh ch hid) (hm : la + lh + 46 ≤ 281474976710656) :
    Calls Try.prog 26 #[(.agg (List.map (Value.int .u8) key).toArray), (.agg (List.map (Value.int .u8) nonce).toArray), .slice aa la ca, .slice ah lh ch] w fun e w' => ∃ X, e = .returned (.agg (List.map (Value.int .u8) X).toArray) ∧ Hid (X = tt6 key nonce ad hid) ∧ Hid (Bn 16 X) ∧ Below w.heap.size w w' := by
  have HRA : Hid (Rd w aa la ca ad) := hra
  have HRH : Hid (Rd w ah lh ch hid) := hrh
  have HLA : Hid (ad.length = la) := hra.hlen
  have HLH : Hid (hid.length = lh) := hrh.hlen
  have HBA : Hid (Byt ad) := hra.byt
  have HBH : Hid (Byt hid) := hrh.byt
  clear hra hrh
  have hwa : IntKind.u64.wrap (la : Int) = (la : Int) := by rw [IntKind.wrap_u64]; omega
  have hwh : IntKind.u64.wrap (lh : Int) = (lh : Int) := by rw [IntKind.wrap_u64]; omega
  have HK : Hid (Bn 32 key) := hk
  have HN : Hid (Bn 12 nonce) := hn
  clear hk hn
  obtain ⟨_, _, hiK⟩ := bn32_cells HK.out
  obtain ⟨_, _, hiN⟩ := bn12_cells HN.out
  go_enter Try.func26, Try.ntmps26
  go_upto_region 1 with fail
  have AK : Hid (Ar (((w.alloc (.cells (List.map (Value.int .u8) key).toArray 31)).alloc (.cells (List.map (Value.int .u8) nonce).toArray 41)).alloc (.cells #[.int .u8 0, .int .u8 0, .int .u8 0, .int .u8 0, .int .u8 0, .int .u8 0, .int .u8 0, .int .u8 0, .int .u8 0, .int .u8 0, .int .u8 0, .int .u8 0, .int .u8 0, .int .u8 0, .int .u8 0, .int .u8 0] 53)) w.heap.size 32 (List.map (Value.int .u8) key)) := (ar_box w _ 32 HK.out.map_len _).later (bel2 _ _ _)
  have AN : Hid (Ar (((w.alloc (.cells (List.map (Value.int .u8) key).toArray 31)).alloc (.cells (List.map (Value.int .u8) nonce).toArray 41)).alloc (.cells #[.int .u8 0, .int .u8 0, .int .u8 0, .int .u8 0, .int .u8 0, .int .u8 0, .int .u8 0, .int .u8 0, .int .u8 0, .int .u8 0, .int .u8 0, .int .u8 0, .int .u8 0, .int .u8 0, .int .u8 0, .int .u8 0] 53)) (w.heap.size + 1) 12 (List.map (Value.int .u8) nonce)) := by have := (ar_box (w.alloc (.cells (List.map (Value.int .u8) key).toArray 31)) _ 12 HN.out.map_len 41).later (bel1 _ (.cells #[.int .u8 0, .int .u8 0, .int .u8 0, .int .u8 0, .int .u8 0, .int .u8 0, .int .u8 0, .int .u8 0, .int .u8 0, .int .u8 0, .int .u8 0, .int .u8 0, .int .u8 0, .int .u8 0, .int .u8 0, .int .u8 0] 53)); simpa [Hid] using this
  have AD : Hid ((((w.alloc (.cells (List.map (Value.int .u8) key).toArray 31)).alloc (.cells (List.map (Value.int .u8) nonce).toArray 41)).alloc (.cells #[.int .u8 0, .int .u8 0, .int .u8 0, .int .u8 0, .int .u8 0, .int .u8 0, .int .u8 0, .int .u8 0, .int .u8 0, .int .u8 0, .int .u8 0, .int .u8 0, .int .u8 0, .int .u8 0, .int .u8 0, .int .u8 0] 53)).there (w.heap.size + 1 + 1) 0 16) := by have := there_new ((w.alloc (.cells (List.map (Value.int .u8) key).toArray 31)).alloc (.cells (List.map (Value.int .u8) nonce).toArray 41)) 16 #[.int .u8 0, .int .u8 0, .int .u8 0, .int .u8 0, .int .u8 0, .int .u8 0, .int .u8 0, .int .u8 0, .int .u8 0, .int .u8 0, .int .u8 0, .int .u8 0, .int .u8 0, .int .u8 0, .int .u8 0, .int .u8 0] rfl 53; simpa [Hid] using this
  have HB : Hid (Below w.heap.size w (((w.alloc (.cells (List.map (Value.int .u8) key).toArray 31)).alloc (.cells (List.map (Value.int .u8) nonce).toArray 41)).alloc (.cells #[.int .u8 0, .int .u8 0, .int .u8 0, .int .u8 0, .int .u8 0, .int .u8 0, .int .u8 0, .int .u8 0, .int .u8 0, .int .u8 0, .int .u8 0, .int .u8 0, .int .u8 0, .int .u8 0, .int .u8 0, .int .u8 0] 53))) := bel3 _ _ _ _
  generalize (((w.alloc (.cells (List.map (Value.int .u8) key).toArray 31)).alloc (.cells (List.map (Value.int .u8) nonce).toArray 41)).alloc (.cells #[.int .u8 0, .int .u8 0, .int .u8 0, .int .u8 0, .int .u8 0, .int .u8 0, .int .u8 0, .int .u8 0, .int .u8 0, .int .u8 0, .int .u8 0, .int .u8 0, .int .u8 0, .int .u8 0, .int .u8 0, .int .u8 0] 53)) = W0 at *
  have k1 : w.heap.size < w.heap.size + 1 := by omega
  have k2 : w.heap.size + 1 < w.heap.size + 1 + 1 := by omega
  generalize hq1 : w.heap.size + 1 = q1 at *
  generalize hq2 : q1 + 1 = q2 at *
  replace HRA : Hid (Rd W0 aa la ca ad) := HRA.out.below HB.out
  replace HRH : Hid (Rd W0 ah lh ch hid) := HRH.out.below HB.out
  go_wp2_with (first
  | (refine wpList_load_mid rfl 31 (.tmp 4) rfl w.heap.size 0 rfl (List.map (Value.int .u8) key) _ AK.out.rng Try.underlying31 rfl hiK ?_)
  | (refine wpList_load_mid rfl 41 (.tmp 5) rfl q1 0 rfl (List.map (Value.int .u8) nonce) _ AN.out.rng Try.underlying41 rfl hiN ?_))
  refine (onekey_c key nonce HK.out HN.out _).mono ?_
  rintro e V ⟨X1, rfl, HX1, HXn, hb⟩
  replace HRA : Hid (Rd V aa la ca ad) := HRA.out.below hb
  replace HRH : Hid (Rd V ah lh ch hid) := HRH.out.below hb
  replace AD : Hid (V.there q2 0 16) := there_later hb AD.out
  replace HB : Hid (Below w.heap.size w V) := HB.out.trans (hb.mono HB.out.size)
  clear hb
  clear AK AN hiK hiN
  go_wp2_with fail
  refine (filling_c aa la ca (by omega) _).mono ?_
  rintro e V1 ⟨g1, m1, rfl, hm1, HM1, Og1, -, hb⟩
  replace HRA : Hid (Rd V1 aa la ca ad) := HRA.out.below hb
  replace HRH : Hid (Rd V1 ah lh ch hid) := HRH.out.below hb
  replace AD : Hid (V1.there q2 0 16) := there_later hb AD.out
  replace HB : Hid (Below w.heap.size w V1) := HB.out.trans (hb.mono HB.out.size)
  clear hb
  go_wp2_with fail
  refine (filling_c ah lh ch (by omega) _).mono ?_
  rintro e V2 ⟨g2, m2, rfl, hm2, HM2, Og2, -, hb⟩
  replace HRA : Hid (Rd V2 aa la ca ad) := HRA.out.below hb
  replace HRH : Hid (Rd V2 ah lh ch hid) := HRH.out.below hb
  replace AD : Hid (V2.there q2 0 16) := there_later hb AD.out
  replace Og1 : Hid (Ow V2 g1 m1 (List.replicate m1 0)) := Og1.out.later hb
  replace HB : Hid (Below w.heap.size w V2) := HB.out.trans (hb.mono HB.out.size)
  clear hb
  go_wp2_with fail
  refine (put64_g (la : Int) _ ⟨by omega, by omega⟩).mono ?_
  rintro e V3 ⟨g3, rfl, HP1, hb⟩
  replace HRA : Hid (Rd V3 aa la ca ad) := HRA.out.below hb
  replace HRH : Hid (Rd V3 ah lh ch hid) := HRH.out.below hb
  replace AD : Hid (V3.there q2 0 16) := there_later hb AD.out
  replace Og1 : Hid (Ow V3 g1 m1 (List.replicate m1 0)) := Og1.out.later hb
  replace Og2 : Hid (Ow V3 g2 m2 (List.replicate m2 0)) := Og2.out.later hb
  replace HB : Hid (Below w.heap.size w V3) := HB.out.trans (hb.mono HB.out.size)
  clear hb
  go_wp2_with fail
  refine (put64_g (lh : Int) _ ⟨by omega, by omega⟩).mono ?_
  rintro e V5 ⟨g4, rfl, HP2, hb⟩
  replace HRA : Hid (Rd V5 aa la ca ad) := HRA.out.below hb
  replace HRH : Hid (Rd V5 ah lh ch hid) := HRH.out.below hb
  replace AD : Hid (V5.there q2 0 16) := there_later hb AD.out
  replace Og1 : Hid (Ow V5 g1 m1 (List.replicate m1 0)) := Og1.out.later hb
  replace Og2 : Hid (Ow V5 g2 m2 (List.replicate m2 0)) := Og2.out.later hb
  replace HP1 : Hid (Rd V5 (some ⟨g3, 0, none⟩) 8 8 (lay 8 (la : Int))) := HP1.out.below hb
  replace HB : Hid (Below w.heap.size w V5) := HB.out.trans (hb.mono HB.out.size)
  clear hb
  go_wp2_with fail
  have HRL : Hid (RdL (V5.alloc (.cells #[.slice aa la ca, .slice (some ⟨g1, 0, none⟩) m1 m1, .slice ah lh ch, .slice (some ⟨g2, 0, none⟩) m2 m2, .slice (some ⟨g3, 0, none⟩) 8 8, .slice (some ⟨g4, 0, none⟩) 8 8] 25)) (some ⟨V5.heap.size, 0, none⟩) 6 [ad, List.replicate m1 0, hid, List.replicate m2 0, lay 8 (la : Int), lay 8 (lh : Int)]) := RdL.six V5 _ _ _ _ _ _ _ _ _ _ _ _ _ _ _ _ _ _ _ _ _ _ _ _ 25 HRA.out Og1.out.rd HRH.out Og2.out.rd HP1.out HP2.out
  have hX := bel1 V5 (.cells #[.slice aa la ca, .slice (some ⟨g1, 0, none⟩) m1 m1, .slice ah lh ch, .slice (some ⟨g2, 0, none⟩) m2 m2, .slice (some ⟨g3, 0, none⟩) 8 8, .slice (some ⟨g4, 0, none⟩) 8 8] 25)
  replace AD : Hid ((V5.alloc (.cells #[.slice aa la ca, .slice (some ⟨g1, 0, none⟩) m1 m1, .slice ah lh ch, .slice (some ⟨g2, 0, none⟩) m2 m2, .slice (some ⟨g3, 0, none⟩) 8 8, .slice (some ⟨g4, 0, none⟩) 8 8] 25)).there q2 0 16) := there_later hX AD.out
  replace HB : Hid (Below w.heap.size w (V5.alloc (.cells #[.slice aa la ca, .slice (some ⟨g1, 0, none⟩) m1 m1, .slice ah lh ch, .slice (some ⟨g2, 0, none⟩) m2 m2, .slice (some ⟨g3, 0, none⟩) 8 8, .slice (some ⟨g4, 0, none⟩) 8 8] 25))) := HB.out.trans (hX.mono HB.out.size)
  clear hX
  have HMT : Hid (mt6 ad hid = [ad, List.replicate m1 0, hid, List.replicate m2 0, lay 8 (la : Int), lay 8 (lh : Int)].flatten) := by unfold Hid mt6 ml6; rw [HLA.out, HLH.out, ← HM1.out, ← HM2.out]
  have hml : (mt6 ad hid).length ≤ 281474976710656 := by
    have h1 := fl6_lt ad.length
    have h2 := fl6_lt hid.length
    rw [mt6_len, HLA.out, HLH.out]
    rw [HLA.out] at h1
    rw [HLH.out] at h2
    omega
  refine (join_l _ _ _ _ _ HRL.out (by decide) (by rw [← HMT.out]; exact hml) (by rw [← HMT.out]; exact mt6_byt HBA.out HBH.out)).mono ?_
  rintro e V6 ⟨gj, T6, Xj, rfl, HTj, HXj, HOj, -, hb⟩
  replace AD : Hid (V6.there q2 0 16) := there_later hb AD.out
  replace HB : Hid (Below w.heap.size w V6) := HB.out.trans (hb.mono HB.out.size)
  clear hb
  have hT6 : T6 ≤ 281474976710656 := by rw [HTj.out, ← HMT.out]; exact hml
  replace HXj : Hid (Xj = mt6 ad hid) := by unfold Hid; rw [HXj.out, HMT.out]
  clear HTj HMT hml HRL Og1 Og2 HP1 HP2
  go_wp2_with fail
  refine (tag_c (some ⟨gj, 0, none⟩) T6 T6 X1 Xj HXn.out _ HOj.out.rd hT6).mono ?_
  rintro e V7 ⟨TG, rfl, HTG, hTG, hb⟩
  have HTn : Hid (Bn 16 TG) := hTG
  have HTE : Hid (TG = tt6 key nonce ad hid) := by unfold Hid tt6; rw [HTG.out, HX1.out, HXj.out]
  clear hTG HTG HX1 HXj HOj
  replace AD : Hid (V7.there q2 0 16) := there_later hb AD.out
  replace HB : Hid (Below w.heap.size w V7) := HB.out.trans (hb.mono HB.out.size)
  clear hb
  obtain ⟨hlenE, honeE, hiE⟩ := bn16_cells HTn.out
  obtain ⟨csE, hcs⟩ : ∃ cs, cs = (List.map (Value.int .u8) TG) := ⟨_, rfl⟩
  have HE : Hid (csE = (List.map (Value.int .u8) TG)) := hcs
  rw [← hcs] at hlenE honeE hiE ⊢
  clear hcs
  go_wp2_with (refine wpList_store_mid rfl 53 (.tmp 8) (.tmp 28) rfl q2 0 csE.toArray rfl rfl (by simpa [hlenE] using AD.out) (by simpa using hiE) (all_oneCell_toArray honeE) ?_)
  have HR2 : Hid ((V7.setCells q2 0 csE).rangeAt q2 0 csE) := World.rangeAt_setCells_same _ _ _ _ (by rw [hlenE]; exact AD.out)
  have hld := run_loadVar_mid (P := Try.prog) _ _ 0 53 _ _ HR2.out Try.underlying53 rfl hiE
  exact bodyPost_ret (v := .agg csE.toArray) (by simp [results, Try.results26]; exact hld) rfl ⟨TG, by rw [HE.out], HTE, HTn, below_setCells _ (by omega) _ _ _ HB.out⟩
end Go.Proofs.Ytjmdgmbkkkoamaa
