/-
  What aead's Seal does. No statement of the seat is proved here.
-/
import Derived.Test.YtjmdgmbkkkoamaaA6T
namespace Go.Proofs.Ytjmdgmbkkkoamaa
open Go.RowKit

set_option maxRecDepth 8000 in
set_option maxHeartbeats 4000000 in
theorem seal_c (key nonce : List Int) (aa : Option Addr) (la ca : Nat) (ad : List Int) (at' : Option Addr) (lt ct : Nat) (text : List Int) (hk : Bn 32 key) (hn : Bn 12 nonce) (w : World) (hra : Rd w aa la ca ad) (hrt : Rd w at' lt ct text) (ha : la ≤ 140737488351232) (hm : lt ≤ 140737488351232) :
    Calls Try.prog 18 #[(.agg (List.map (Value.int .u8) key).toArray), (.agg (List.map (Value.int .u8) nonce).toArray), .slice aa la ca, .slice at' lt ct] w fun e w' => ∃ g m X, e = .returned (.slice (some ⟨g, 0, none⟩) m m) ∧ Hid (m = lt + 16) ∧ Hid (X = se6 key nonce ad text) ∧ Hid (Ow w' g m X) ∧ w.heap.size ≤ g ∧ Below w.heap.size w w' := by
  have HRA : Hid (Rd w aa la ca ad) := hra
  have HRT : Hid (Rd w at' lt ct text) := hrt
  have HLT : Hid (text.length = lt) := hrt.hlen
  have HBT : Hid (Byt text) := hrt.byt
  clear hra hrt
  have HK : Hid (Bn 32 key) := hk
  have HN : Hid (Bn 12 nonce) := hn
  clear hk hn
  obtain ⟨_, _, hiK⟩ := bn32_cells HK.out
  obtain ⟨_, _, hiN⟩ := bn12_cells HN.out
  go_enter Try.func18, Try.ntmps18
  go_upto_region 1 with fail
  have AK : Hid (Ar ((w.alloc (.cells (List.map (Value.int .u8) key).toArray 31)).alloc (.cells (List.map (Value.int .u8) nonce).toArray 41)) w.heap.size 32 (List.map (Value.int .u8) key)) := (ar_box w _ 32 HK.out.map_len _).later (bel1 _ _)
  have AN : Hid (Ar ((w.alloc (.cells (List.map (Value.int .u8) key).toArray 31)).alloc (.cells (List.map (Value.int .u8) nonce).toArray 41)) (w.heap.size + 1) 12 (List.map (Value.int .u8) nonce)) := by have := (ar_box (w.alloc (.cells (List.map (Value.int .u8) key).toArray 31)) _ 12 HN.out.map_len 41); simpa [Hid] using this
  have HB : Hid (Below w.heap.size w ((w.alloc (.cells (List.map (Value.int .u8) key).toArray 31)).alloc (.cells (List.map (Value.int .u8) nonce).toArray 41))) := bel2 _ _ _
  generalize ((w.alloc (.cells (List.map (Value.int .u8) key).toArray 31)).alloc (.cells (List.map (Value.int .u8) nonce).toArray 41)) = W0 at *
  have k1 : w.heap.size < w.heap.size + 1 := by omega
  generalize hq1 : w.heap.size + 1 = q1 at *
  replace HRA : Hid (Rd W0 aa la ca ad) := HRA.out.below HB.out
  replace HRT : Hid (Rd W0 at' lt ct text) := HRT.out.below HB.out
  go_wp2_with (first
  | (refine wpList_load_mid rfl 31 (.tmp 4) rfl w.heap.size 0 rfl (List.map (Value.int .u8) key) _ AK.out.rng Try.underlying31 rfl hiK ?_)
  | (refine wpList_load_mid rfl 41 (.tmp 5) rfl q1 0 rfl (List.map (Value.int .u8) nonce) _ AN.out.rng Try.underlying41 rfl hiN ?_))
  refine (apply_o key 1 nonce at' lt ct text HK.out ⟨by decide, by decide⟩ HN.out _ HRT.out hm).mono ?_
  rintro e V ⟨gh, H, rfl, HH, OH, -, hb⟩
  clear HRT
  replace AK : Hid (Ar V w.heap.size 32 (List.map (Value.int .u8) key)) := AK.out.later hb
  replace AN : Hid (Ar V q1 12 (List.map (Value.int .u8) nonce)) := AN.out.later hb
  replace HRA : Hid (Rd V aa la ca ad) := HRA.out.below hb
  replace HB : Hid (Below w.heap.size w V) := HB.out.trans (hb.mono HB.out.size)
  clear hb
  go_wp2_with (first
  | (refine wpList_load_mid rfl 31 (.tmp 4) rfl w.heap.size 0 rfl (List.map (Value.int .u8) key) _ AK.out.rng Try.underlying31 rfl hiK ?_)
  | (refine wpList_load_mid rfl 41 (.tmp 5) rfl q1 0 rfl (List.map (Value.int .u8) nonce) _ AN.out.rng Try.underlying41 rfl hiN ?_))
  refine (tagof_c key nonce aa la ca ad (some ⟨gh, 0, none⟩) lt lt H HK.out HN.out _ HRA.out OH.out.rd (by omega)).mono ?_
  rintro e V1 ⟨TG, rfl, HTG, HTn, hb⟩
  clear AK AN HRA hiK hiN
  replace OH : Hid (Ow V1 gh lt H) := OH.out.later hb
  replace HB : Hid (Below w.heap.size w V1) := HB.out.trans (hb.mono HB.out.size)
  clear hb
  obtain ⟨hlen10, hone10, hi10⟩ := bn16_cells HTn.out
  obtain ⟨cs10, hcs⟩ : ∃ cs, cs = (List.map (Value.int .u8) TG) := ⟨_, rfl⟩
  rw [← hcs] at hlen10 hone10 hi10 ⊢
  have HC10 : Hid (cs10 = (List.map (Value.int .u8) TG)) := hcs
  clear hcs
  have hth := there_new V1 16 #[.int .u8 0, .int .u8 0, .int .u8 0, .int .u8 0, .int .u8 0, .int .u8 0, .int .u8 0, .int .u8 0, .int .u8 0, .int .u8 0, .int .u8 0, .int .u8 0, .int .u8 0, .int .u8 0, .int .u8 0, .int .u8 0] rfl 53
  have A10 : Hid (Ar ((V1.alloc (.cells #[.int .u8 0, .int .u8 0, .int .u8 0, .int .u8 0, .int .u8 0, .int .u8 0, .int .u8 0, .int .u8 0, .int .u8 0, .int .u8 0, .int .u8 0, .int .u8 0, .int .u8 0, .int .u8 0, .int .u8 0, .int .u8 0] 53)).setCells V1.heap.size 0 cs10) V1.heap.size 16 (List.map (Value.int .u8) TG)) := by rw [← HC10.out]; exact ar_var _ _ 16 rfl _ _ hlen10
  have hX : Below V1.heap.size V1 ((V1.alloc (.cells #[.int .u8 0, .int .u8 0, .int .u8 0, .int .u8 0, .int .u8 0, .int .u8 0, .int .u8 0, .int .u8 0, .int .u8 0, .int .u8 0, .int .u8 0, .int .u8 0, .int .u8 0, .int .u8 0, .int .u8 0, .int .u8 0] 53)).setCells V1.heap.size 0 cs10) := bel_var _ _ _ _
  have hbs10 : w.heap.size ≤ V1.heap.size := HB.out.size
  replace OH : Hid (Ow ((V1.alloc (.cells #[.int .u8 0, .int .u8 0, .int .u8 0, .int .u8 0, .int .u8 0, .int .u8 0, .int .u8 0, .int .u8 0, .int .u8 0, .int .u8 0, .int .u8 0, .int .u8 0, .int .u8 0, .int .u8 0, .int .u8 0, .int .u8 0] 53)).setCells V1.heap.size 0 cs10) gh lt H) := OH.out.later hX
  replace HB : Hid (Below w.heap.size w ((V1.alloc (.cells #[.int .u8 0, .int .u8 0, .int .u8 0, .int .u8 0, .int .u8 0, .int .u8 0, .int .u8 0, .int .u8 0, .int .u8 0, .int .u8 0, .int .u8 0, .int .u8 0, .int .u8 0, .int .u8 0, .int .u8 0, .int .u8 0] 53)).setCells V1.heap.size 0 cs10)) := HB.out.trans (hX.mono HB.out.size)
  clear hX
  go_upto_region 3 with (refine wpList_store_mid rfl 53 (.tmp 10) (.tmp 19) rfl (V1.heap.size) 0 cs10.toArray rfl rfl (by simpa [hlen10] using hth) (by simpa using hi10) (all_oneCell_toArray hone10) ?_)
  clear hth
  generalize ((V1.alloc (.cells #[.int .u8 0, .int .u8 0, .int .u8 0, .int .u8 0, .int .u8 0, .int .u8 0, .int .u8 0, .int .u8 0, .int .u8 0, .int .u8 0, .int .u8 0, .int .u8 0, .int .u8 0, .int .u8 0, .int .u8 0, .int .u8 0] 53)).setCells V1.heap.size 0 cs10) = W2 at *
  generalize V1.heap.size = b10 at *
  clear HC10 hone10 hlen10 hi10
  go_wp2_with fail
  have HRL : Hid (RdL (W2.alloc (.cells #[.slice (some ⟨gh, 0, none⟩) lt lt, .slice (some ⟨b10, 0, none⟩) 16 16] 25)) (some ⟨W2.heap.size, 0, none⟩) 2 [H, TG]) := RdL.two W2 _ _ _ _ _ _ _ _ 25 OH.out.rd (A10.out.rd_all HTn.out.byt 16 (by decide))
  have hX := bel1 W2 (.cells #[.slice (some ⟨gh, 0, none⟩) lt lt, .slice (some ⟨b10, 0, none⟩) 16 16] 25)
  replace HB : Hid (Below w.heap.size w (W2.alloc (.cells #[.slice (some ⟨gh, 0, none⟩) lt lt, .slice (some ⟨b10, 0, none⟩) 16 16] 25))) := HB.out.trans (hX.mono HB.out.size)
  clear hX
  have HF : Hid ([H, TG].flatten = se6 key nonce ad text) := by unfold Hid se6; rw [HTG.out, HH.out]; simp
  have hfl : [H, TG].flatten.length = lt + 16 := by rw [HF.out, se6_len, HLT.out]
  refine (join_l _ _ _ _ _ HRL.out (by decide) (by rw [hfl]; omega) (by rw [HF.out]; exact se6_byt _ _ _ HBT.out)).mono ?_
  rintro e V3 ⟨gj, T3, Xj, rfl, HTj, HXj, HOj, hgj, hb⟩
  have HT3 : Hid (T3 = lt + 16) := by unfold Hid; rw [HTj.out, hfl]
  have HXE : Hid (Xj = se6 key nonce ad text) := by unfold Hid; rw [HXj.out, HF.out]
  have hgw : w.heap.size ≤ gj := Nat.le_trans HB.out.size hgj
  replace HB : Hid (Below w.heap.size w V3) := HB.out.trans (hb.mono HB.out.size)
  clear hb
  clear HTj HXj HF hfl HRL OH A10 HTG HTn HH hgj
  go_wp2
  go_ret
  exact ⟨gj, T3, Xj, rfl, HT3, HXE, HOj, hgw, HB.out⟩
end Go.Proofs.Ytjmdgmbkkkoamaa
