/-
  Several texts of one's own, laid together. No statement of the seat is proved here.
-/
import Derived.Test.YtmibjgkakolhiaaGreatDoorPk1
import Derived.Test.YtmibjgkakolhiaaGreatDoorPk44
/-
 What the reference's TagOf does. No statement of the seat is proved here.
-/
namespace Go.Proofs.YtmibjgkakolhiaaGreatDoor
open Go.RowKit

set_option maxRecDepth 8000 in
theorem made_app {ad H X1 X2 : List Int} {la lh : Nat} (h1 : X1 = ad ++ List.replicate (fl6 ad.length) 0) (h2 : X2 = H ++ List.replicate (fl6 H.length) 0) (ha : ad.length = la) (hh : H.length = lh) : ((X1 ++ X2) ++ lay 8 (la : Int)) ++ lay 8 (lh : Int) = mt6 ad H := by
 unfold mt6 ml6
 rw [h1, h2, ha, hh]
 simp only [List.flatten_cons, List.flatten_nil, List.append_assoc, List.append_nil]
set_option maxRecDepth 8000 in
set_option maxHeartbeats 8000000 in
theorem rtagof_c (key nonce : List Int) (aa : Option Addr) (la ca : Nat) (ad : List Int) (ah : Option Addr) (lh ch : Nat) (hid : List Int) (hk : Bn 32 key) (hn : Bn 12 nonce) (w : World) (hra : Rd w aa la ca ad) (hrh : Rd w ah lh ch hid) (hg : Gr w) (hm : la + lh + 46 ≤ 2097152) :
  Calls Tryz.prog 59 #[(.agg (List.map (Value.int .u8) key).toArray), (.agg (List.map (Value.int .u8) nonce).toArray), .slice aa la ca, .slice ah lh ch] w fun e w' => ∃ g X, e = .returned (.slice (some ⟨g, 0, none⟩) 16 16) ∧ Hid (X = tt6 key nonce ad hid) ∧ Hid (Rd w' (some ⟨g, 0, none⟩) 16 16 X) ∧ w.heap.size ≤ g ∧ Below w.heap.size w w' := by
 have HRA : Hid (Rd w aa la ca ad) := hra
 have HRH : Hid (Rd w ah lh ch hid) := hrh
 have HG : Hid (Gr w) := hg
 have HLA : Hid (ad.length = la) := hra.hlen
 have HLH : Hid (hid.length = lh) := hrh.hlen
 have HBA : Hid (Byt ad) := hra.byt
 have HBH : Hid (Byt hid) := hrh.byt
 clear hra hrh hg
 have hwa : IntKind.u64.wrap (la : Int) = (la : Int) := by rw [IntKind.wrap_u64]; omega
 have hwh : IntKind.u64.wrap (lh : Int) = (lh : Int) := by rw [IntKind.wrap_u64]; omega
 have HK : Hid (Bn 32 key) := hk
 have HN : Hid (Bn 12 nonce) := hn
 clear hk hn
 obtain ⟨_, _, hiK⟩ := bn32_cells HK.out
 obtain ⟨_, _, hiN⟩ := bn12_cells HN.out
 go_enter Tryz.func59, Tryz.ntmps59
 go_upto_region 1 with fail
 have AK : Hid (Ar ((w.alloc (.cells (List.map (Value.int .u8) key).toArray 33)).alloc (.cells (List.map (Value.int .u8) nonce).toArray 81)) w.heap.size 32 (List.map (Value.int .u8) key)) := (ar_box w _ 32 HK.out.map_len _).later (bel1 _ _)
 have AN : Hid (Ar ((w.alloc (.cells (List.map (Value.int .u8) key).toArray 33)).alloc (.cells (List.map (Value.int .u8) nonce).toArray 81)) (w.heap.size + 1) 12 (List.map (Value.int .u8) nonce)) := by have := (ar_box (w.alloc (.cells (List.map (Value.int .u8) key).toArray 33)) _ 12 HN.out.map_len 81); simpa [Hid] using this
 have HB : Hid (Below w.heap.size w ((w.alloc (.cells (List.map (Value.int .u8) key).toArray 33)).alloc (.cells (List.map (Value.int .u8) nonce).toArray 81))) := bel2 _ _ _
 generalize ((w.alloc (.cells (List.map (Value.int .u8) key).toArray 33)).alloc (.cells (List.map (Value.int .u8) nonce).toArray 81)) = W0 at *
 have k1 : w.heap.size < w.heap.size + 1 := by omega
 generalize hq1 : w.heap.size + 1 = q1 at *
 replace HRA := hidp (HRA.out.below HB.out)
 replace HRH := hidp (HRH.out.below HB.out)
 replace HG := hidp (HG.out.later HB.out)
 go_wp2_with (first
 | (refine wpList_load_mid rfl 33 (.tmp 4) rfl w.heap.size 0 rfl (List.map (Value.int .u8) key) _ AK.out.rng Tryz.underlying33 rfl hiK ?_)
 | (refine wpList_load_mid rfl 81 (.tmp 5) rfl q1 0 rfl (List.map (Value.int .u8) nonce) _ AN.out.rng Tryz.underlying81 rfl hiN ?_))
 refine (rblock_c key 0 nonce HK.out ⟨by decide, by decide⟩ HN.out _ HG.out).mono ?_
 rintro e V ⟨B, rfl, HBk, hB, hb⟩
 have HBn : Hid (Bn 64 B) := hB
 clear hB AK AN hiK hiN
 replace HRA := hidp (HRA.out.below hb)
 replace HRH := hidp (HRH.out.below hb)
 replace HG := hidp (HG.out.later hb)
 replace HB := hidp (HB.out.trans (hb.mono HB.out.size))
 clear hb
 obtain ⟨hlen9, hone9, hi9⟩ := bn64_cells HBn.out
 obtain ⟨cs9, hcs⟩ : ∃ cs, cs = (List.map (Value.int .u8) B) := ⟨_, rfl⟩
 rw [← hcs] at hlen9 hone9 hi9 ⊢
 have HC9 : Hid (cs9 = (List.map (Value.int .u8) B)) := hcs
 clear hcs
 have hth := there_new V 64 zb64 rfl 90
 have A9 : Hid (Ar ((V.alloc (.cells zb64 90)).setCells V.heap.size 0 cs9) V.heap.size 64 (List.map (Value.int .u8) B)) := by rw [← HC9.out]; exact ar_var _ _ 64 rfl _ _ hlen9
 have hX : Below V.heap.size V ((V.alloc (.cells zb64 90)).setCells V.heap.size 0 cs9) := bel_var _ _ _ _
 have hbs9 : w.heap.size ≤ V.heap.size := HB.out.size
 replace HRA := hidp (HRA.out.below hX)
 replace HRH := hidp (HRH.out.below hX)
 replace HG := hidp (HG.out.later hX)
 replace HB := hidp (HB.out.trans (hX.mono HB.out.size))
 clear hX
 go_upto_region 2 with (refine wpList_store_mid rfl 90 (.tmp 9) (.tmp 16) rfl (V.heap.size) 0 cs9.toArray rfl rfl (by simpa [hlen9] using hth) (by simpa using hi9) (all_oneCell_toArray hone9) ?_)
 clear hth
 generalize ((V.alloc (.cells zb64 90)).setCells V.heap.size 0 cs9) = W2 at *
 generalize V.heap.size = b9 at *
 clear HC9 hone9 hlen9 hi9
 have k9 : b9 < W2.heap.size := A9.out.lt (by decide)
 go_upto_region 3 with fail
 obtain ⟨W3, hW3⟩ : ∃ W, W = W2.alloc (.cells zb32 33) := ⟨_, rfl⟩
 obtain ⟨b10, hb10⟩ : ∃ b, b = W2.heap.size := ⟨_, rfl⟩
 rw [← hW3, ← hb10]
 have A10 : Hid (Ar W3 b10 32 (List.map (Value.int .u8) ((B.take 0) ++ (List.replicate 32 0).drop 0))) := by unfold Hid; rw [hW3, hb10]; exact ar_box W2 (List.map (Value.int .u8) (List.replicate 32 0)) 32 rfl 33
 have HE : Hid (Ext W2 W3) := by unfold Hid; rw [hW3]; exact bel1 _ _
 have k10 : W2.heap.size ≤ b10 := by omega
 clear hW3 hb10
 go_wp2
 go_loopw [11] (fun iv wr => ∃ j : Nat, j ≤ 32 ∧ iv = .int .i64 j ∧ Hid (Ar wr b10 32 (List.map (Value.int .u8) ((B.take j) ++ (List.replicate 32 0).drop j))) ∧ Hid (Ext W2 wr)) (fun iv _ => 32 - (intOf iv).toNat)
 case atStart => exact ⟨0, Nat.zero_le _, rfl, A10, HE⟩
 case round =>
  clear A10 HE
  obtain ⟨j, hj, rfl, A10, HE⟩ := hrel
  by_cases hlt : j < 32
  ·have g1 : (j : Int) < 32 := by omega
   have g2 : (j : Int) < 64 := by omega
   have htn : (j : Int).toNat = j := by omega
   obtain ⟨cx, -⟩ := (A9.out.later HE.out).cell j (by omega)
   rw [List.getElem_map] at cx
   obtain ⟨x, hx⟩ : ∃ x, x = B[j]'(by have := HBn.out.len; omega) := ⟨_, rfl⟩
   rw [← hx] at cx
   have HX : Hid (B[j]? = some x) := by unfold Hid; rw [hx]; exact List.getElem?_eq_getElem _
   clear hx
   obtain ⟨cy, fy⟩ := A10.out.cell j hlt
   go_wp2
   go_roundw
   case rel => exact ⟨j + 1, by omega, by go_num, by
    have := A10.out.set j hlt (.int .u8 x)
    rw [← List.map_set, half2_set _ _ j x HX.out (by simp; omega)] at this
    exact this, HE.out.setCell (p := ⟨b10, j, none⟩) k10 _⟩
   case measure => simp [intOf]; omega
  ·have e : j = 32 := by omega
   subst e
   have A11 : Hid (Ar wr b10 32 (List.map (Value.int .u8) (ot6 key nonce))) := by
    have := A10.out
    rw [List.drop_eq_nil_of_le (by decide), List.append_nil] at this
    unfold Hid ot6
    rw [← HBk.out]
    exact this
   have hE2 := HE.out
   replace HRA := hidp (HRA.out.below hE2)
   replace HRH := hidp (HRH.out.below hE2)
   replace HB := hidp (HB.out.trans (Below.mono hE2 HB.out.size))
   clear A9 A10 HE hE2 hlt hj HG
   go_upto_region 7 with fail
   obtain ⟨Y, hY⟩ : ∃ Y, Y = wr := ⟨_, rfl⟩
   rw [← hY] at A11 HRA HRH HB ⊢
   clear hY
   go_wp2_with fail
   refine (rfill_c aa la ca ad _ HRA.out (by omega)).mono ?_
   rintro e V1 ⟨a1, m1, c1, X1, rfl, HM1, HX1, HO, hb⟩
   have HE : Hid (Ext Y V1) := hb
   replace HRH := hidp (HRH.out.below hb)
   clear hb
   go_wp2_with fail
   refine (rfill_c ah lh ch hid _ HRH.out (by omega)).mono ?_
   rintro e V2 ⟨a2, m2, c2, X2, rfl, HM2, HX2, HO2, hb⟩
   replace HO : Hid (V2.ownsRow Y.heap.size 5 1 (.slice a1 m1 c1) m1 (List.map (Value.int .u8) X1)) := own_later HO.out hb
   replace HE := hidp (HE.out.trans hb)
   have HR2 : Hid (Rd V2 a2 m2 c2 X2) := rd_own (by rw [HX2.out]; exact HBH.out.app (byt_zero _)) HO2.out
   clear hb HO2 HRH
   have hm1 : m1 ≤ la + 15 := by have := fl6_lt la; have := HM1.out; omega
   have hm2 : m2 ≤ lh + 15 := by have := fl6_lt lh; have := HM2.out; omega
   go_wp2_with (at_builtin; refine wpList_app_l rfl (.tmp 27) (.tmp 29) rfl Y.heap.size _ m1 X1 rfl HO.out a2 m2 c2 X2 rfl HR2.out (by omega) HE.out.size ?_)
   intro v3 V3 hown hbx
   obtain ⟨a3, c3, rfl⟩ := owns_shape hown
   replace HO : Hid (V3.ownsRow Y.heap.size 5 1 (.slice a3 (m1 + m2) c3) (m1 + m2) (List.map (Value.int .u8) (X1 ++ X2))) := by unfold Hid; rw [List.map_append]; exact hown
   replace HE : Hid (Ext Y V3) := Below.trans HE.out hbx
   obtain ⟨n3, hn3⟩ : ∃ n, n = m1 + m2 := ⟨_, rfl⟩
   rw [← hn3] at HO ⊢
   have hn3' : n3 ≤ la + lh + 30 := by omega
   clear hown hbx HR2 hn3
   go_wp2_with fail
   refine (rput64_c (la : Int) _ (by omega) (by omega)).mono ?_
   rintro e V4 ⟨g4, c4, rfl, HP, -, hb⟩
   replace HO : Hid (V4.ownsRow Y.heap.size 5 1 (.slice a3 n3 c3) n3 (List.map (Value.int .u8) (X1 ++ X2))) := own_later HO.out hb
   replace HE := hidp (HE.out.trans hb)
   clear hb
   go_wp2_with (at_builtin; refine wpList_app_l rfl (.tmp 31) (.tmp 35) rfl Y.heap.size _ n3 (X1 ++ X2) rfl HO.out (some ⟨g4, 0, none⟩) 8 c4 (lay 8 (la : Int)) rfl HP.out (by omega) HE.out.size ?_)
   intro v5 V5 hown hbx
   obtain ⟨a5, c5, rfl⟩ := owns_shape hown
   replace HO : Hid (V5.ownsRow Y.heap.size 5 1 (.slice a5 (n3 + 8) c5) (n3 + 8) (List.map (Value.int .u8) ((X1 ++ X2) ++ lay 8 (la : Int)))) := by unfold Hid; simpa using hown
   replace HE : Hid (Ext Y V5) := Below.trans HE.out hbx
   clear hown hbx HP
   go_wp2_with fail
   refine (rput64_c (lh : Int) _ (by omega) (by omega)).mono ?_
   rintro e V6 ⟨g6, c6, rfl, HP, -, hb⟩
   replace HO : Hid (V6.ownsRow Y.heap.size 5 1 (.slice a5 (n3 + 8) c5) (n3 + 8) (List.map (Value.int .u8) ((X1 ++ X2) ++ lay 8 (la : Int)))) := own_later HO.out hb
   replace HE := hidp (HE.out.trans hb)
   clear hb
   go_wp2_with (at_builtin; refine wpList_app_l rfl (.tmp 36) (.tmp 40) rfl Y.heap.size _ (n3 + 8) ((X1 ++ X2) ++ lay 8 (la : Int)) rfl HO.out (some ⟨g6, 0, none⟩) 8 c6 (lay 8 (lh : Int)) rfl HP.out (by omega) HE.out.size ?_)
   intro v7 V7 hown hbx
   obtain ⟨a7, c7, rfl⟩ := owns_shape hown
   have HO7 : Hid (V7.ownsRow Y.heap.size 5 1 (.slice a7 (n3 + 8 + 8) c7) (n3 + 8 + 8) (List.map (Value.int .u8) (mt6 ad hid))) := by
    unfold Hid
    rw [← made_app HX1.out HX2.out HLA.out HLH.out]
    simpa using hown
   replace HE : Hid (Ext Y V7) := Below.trans HE.out hbx
   obtain ⟨n7, hn7⟩ : ∃ n, n = n3 + 8 + 8 := ⟨_, rfl⟩
   rw [← hn7] at HO7
   try rw [show n3 + 16 = n7 by omega]
   try rw [← hn7]
   have hn7' : n7 ≤ 2097152 := by omega
   have HR7 : Hid (Rd V7 a7 n7 c7 (mt6 ad hid)) := rd_own (mt6_byt HBA.out HBH.out) HO7.out
   replace A11 := hidp (A11.out.later HE.out)
   replace HB := hidp (HB.out.trans (Below.mono HE.out HB.out.size))
   clear hown hbx HP HO HO7 HE hn7
   obtain ⟨_, _, hi11⟩ := bn32_cells (ot6_bn key nonce)
   go_wp2_with (refine wpList_load_mid rfl 33 (.tmp 10) rfl b10 0 rfl (List.map (Value.int .u8) (ot6 key nonce)) _ A11.out.rng Tryz.underlying33 rfl hi11 ?_)
   refine (rtag_c a7 n7 c7 (ot6 key nonce) (mt6 ad hid) (ot6_bn key nonce) _ HR7.out hn7').mono ?_
   rintro e V8 ⟨TG, rfl, HTG, hTG, hb⟩
   have HTn : Hid (Bn 16 TG) := hTG
   clear hTG A11 hi11 HR7
   replace HB := hidp (HB.out.trans (hb.mono HB.out.size))
   clear hb
   obtain ⟨hlen13, hone13, hi13⟩ := bn16_cells HTn.out
   obtain ⟨cs13, hcs⟩ : ∃ cs, cs = (List.map (Value.int .u8) TG) := ⟨_, rfl⟩
   rw [← hcs] at hlen13 hone13 hi13 ⊢
   have HC13 : Hid (cs13 = (List.map (Value.int .u8) TG)) := hcs
   clear hcs
   have hth := there_new V8 16 zb16 rfl 99
   have A13 : Hid (Ar ((V8.alloc (.cells zb16 99)).setCells V8.heap.size 0 cs13) V8.heap.size 16 (List.map (Value.int .u8) TG)) := by rw [← HC13.out]; exact ar_var _ _ 16 rfl _ _ hlen13
   have hX : Below V8.heap.size V8 ((V8.alloc (.cells zb16 99)).setCells V8.heap.size 0 cs13) := bel_var _ _ _ _
   have hbs13 : w.heap.size ≤ V8.heap.size := HB.out.size
   replace HB := hidp (HB.out.trans (hX.mono HB.out.size))
   clear hX
   go_upto_region 10 with (refine wpList_store_mid rfl 99 (.tmp 13) (.tmp 44) rfl (V8.heap.size) 0 cs13.toArray rfl rfl (by simpa [hlen13] using hth) (by simpa using hi13) (all_oneCell_toArray hone13) ?_)
   clear hth
   generalize ((V8.alloc (.cells zb16 99)).setCells V8.heap.size 0 cs13) = W9 at *
   generalize V8.heap.size = b13 at *
   clear HC13 hone13 hlen13 hi13
   go_wp2
   go_ret
   exact ⟨b13, TG, rfl, HTG, A13.out.rd_all HTn.out.byt 16 (by decide), hbs13, HB.out⟩
end Go.Proofs.YtmibjgkakolhiaaGreatDoor
/-
 What the reference's Seal does. No statement of the seat is proved here.
-/
namespace Go.Proofs.YtmibjgkakolhiaaGreatDoor
open Go.RowKit

set_option maxRecDepth 8000 in
theorem cutv {F G : World → Value → Nat → Nat → List Int → Prop} {β : Prop} (h : (∀ u v y x N, F u v y x N → G u v y x N) → β) (hr : ∀ u v y x N, F u v y x N → G u v y x N) : β := h hr
set_option maxRecDepth 8000 in
set_option maxHeartbeats 8000000 in
theorem rseal_c (key nonce : List Int) (aa : Option Addr) (la ca : Nat) (ad : List Int) (at' : Option Addr) (lt ct : Nat) (text : List Int) (hk : Bn 32 key) (hn : Bn 12 nonce) (w : World) (hra : Rd w aa la ca ad) (hrt : Rd w at' lt ct text) (hg : Gr w) (hm : la + lt + 46 ≤ 2097152) :
  Calls Tryz.prog 44 #[(.agg (List.map (Value.int .u8) key).toArray), (.agg (List.map (Value.int .u8) nonce).toArray), .slice aa la ca, .slice at' lt ct] w fun e w' => ∃ a' m c' X, e = .returned (.slice a' m c') ∧ Hid (m = lt + 16) ∧ Hid (X = se6 key nonce ad text) ∧ Hid (w'.ownsRow w.heap.size 5 1 (.slice a' m c') m (List.map (Value.int .u8) X)) ∧ Below w.heap.size w w' := by
 have HRA : Hid (Rd w aa la ca ad) := hra
 have HRT : Hid (Rd w at' lt ct text) := hrt
 have HG : Hid (Gr w) := hg
 clear hra hrt hg
 have HK : Hid (Bn 32 key) := hk
 have HN : Hid (Bn 12 nonce) := hn
 clear hk hn
 obtain ⟨_, _, hiK⟩ := bn32_cells HK.out
 obtain ⟨_, _, hiN⟩ := bn12_cells HN.out
 go_enter Tryz.func44, Tryz.ntmps44
 go_upto_region 1 with fail
 have AK : Hid (Ar ((w.alloc (.cells (List.map (Value.int .u8) key).toArray 33)).alloc (.cells (List.map (Value.int .u8) nonce).toArray 81)) w.heap.size 32 (List.map (Value.int .u8) key)) := (ar_box w _ 32 HK.out.map_len _).later (bel1 _ _)
 have AN : Hid (Ar ((w.alloc (.cells (List.map (Value.int .u8) key).toArray 33)).alloc (.cells (List.map (Value.int .u8) nonce).toArray 81)) (w.heap.size + 1) 12 (List.map (Value.int .u8) nonce)) := by have := (ar_box (w.alloc (.cells (List.map (Value.int .u8) key).toArray 33)) _ 12 HN.out.map_len 81); simpa [Hid] using this
 have HB : Hid (Below w.heap.size w ((w.alloc (.cells (List.map (Value.int .u8) key).toArray 33)).alloc (.cells (List.map (Value.int .u8) nonce).toArray 81))) := bel2 _ _ _
 generalize ((w.alloc (.cells (List.map (Value.int .u8) key).toArray 33)).alloc (.cells (List.map (Value.int .u8) nonce).toArray 81)) = W0 at *
 have k1 : w.heap.size < w.heap.size + 1 := by omega
 generalize hq1 : w.heap.size + 1 = q1 at *
 replace HRA := hidp (HRA.out.below HB.out)
 replace HRT := hidp (HRT.out.below HB.out)
 replace HG := hidp (HG.out.later HB.out)
 go_wp2_with (first
 | (refine wpList_load_mid rfl 33 (.tmp 4) rfl w.heap.size 0 rfl (List.map (Value.int .u8) key) _ AK.out.rng Tryz.underlying33 rfl hiK ?_)
 | (refine wpList_load_mid rfl 81 (.tmp 5) rfl q1 0 rfl (List.map (Value.int .u8) nonce) _ AN.out.rng Tryz.underlying81 rfl hiN ?_))
 refine (rapply_c key 1 nonce at' lt ct text HK.out ⟨by decide, by decide⟩ HN.out _ HRT.out (by omega) HG.out).mono ?_
 rintro e V ⟨a2, c2, H, rfl, HH, HRH, hb⟩
 clear HRT
 replace AK := hidp (AK.out.later hb)
 replace AN := hidp (AN.out.later hb)
 replace HRA := hidp (HRA.out.below hb)
 replace HG := hidp (HG.out.later hb)
 replace HB := hidp (HB.out.trans (hb.mono HB.out.size))
 clear hb
 have hbV : w.heap.size ≤ V.heap.size := HB.out.size
 go_upto_region 2 with fail
 refine wp_region_noPanic ?_
 refine wp_region_held_drew (S := Ext V) (by kernel_rfl) (Ext.refl _).drew (fun hH => ?_)
 change wpAnyH _ _ _ _ _ _ #[false, false, false, false, false, false, false, false, false, false] _ _
 refine tk 1 ?_
 try simp only [Act.put, List.setIfInBounds_toArray, List.set_cons_zero, List.set_cons_succ]
 refine tkl 3 (.agg (List.map (Value.int .u8) key).toArray) ?_ (hy := by exact yieldsIf_load_mid (by rfl) 33 (.tmp 4) rfl w.heap.size 0 rfl (List.map (Value.int .u8) key) _ (fun u hu => range_later hu AK.out.rng) Tryz.underlying33 rfl hiK)
 try simp only [Act.put, List.setIfInBounds_toArray, List.set_cons_zero, List.set_cons_succ]
 refine tkl 4 (.agg (List.map (Value.int .u8) nonce).toArray) ?_ (hy := by exact yieldsIf_load_mid (by rfl) 81 (.tmp 5) rfl q1 0 rfl (List.map (Value.int .u8) nonce) _ (fun u hu => range_later hu AN.out.rng) Tryz.underlying81 rfl hiN)
 try simp only [Act.put, List.setIfInBounds_toArray, List.set_cons_zero, List.set_cons_succ]
 refine tk 5 ?_
 try simp only [Act.put, List.setIfInBounds_toArray, List.set_cons_zero, List.set_cons_succ]
 refine tk 6 ?_
 try simp only [Act.put, List.setIfInBounds_toArray, List.set_cons_zero, List.set_cons_succ]
 generalize V.drew = y0 at *
 revert hH
 apply cutv (F := fun u v _ x N => Hid (Ext V u) ∧ Hid (u.ownsRow V.heap.size 5 1 v lt (List.map (Value.int .u8) H)) ∧ Hid (Rd u (some ⟨x, 0, none⟩) 16 16 N) ∧ Hid (N = tt6 key nonce ad H))
 case h =>
  intro hrest hH
  refine rdy 0 (fun K hK => ?sr2)
  case sr2 =>
   go_simp
   have hb := bel1 y0 (.cells #[] 5)
   have OL : Hid ((y0.alloc (.cells #[] 5)).ownsRow V.heap.size 5 1 (.slice (some ⟨y0.heap.size, 0, none⟩) 0 0) 0 (List.map (Value.int .u8) [])) := World.ownsRow_made y0 #[] 0 hH.size (by decide) rfl
   refine hK.out _ _ (hH.trans hb) (fun hH' => ?_)
   clear hK K hH; have hH := hH'; clear hH'; try simp only [List.setIfInBounds_toArray, List.set]
   obtain ⟨x4, hnew⟩ : ∃ v, v = (y0.alloc (.cells #[] 5)) := ⟨_, rfl⟩
   obtain ⟨g0, hg0⟩ : ∃ v, v = y0.heap.size := ⟨_, rfl⟩
   rw [← hnew] at hb OL hH ⊢
   rw [← hg0] at OL ⊢
   have hl0 : g0 < x4.heap.size := (OL.out.lt g0 (by simp [Value.ownBlock])).2
   clear hb hnew hg0
   refine rdy 2 (fun K hK => ?sr5)
   case sr5 =>
    obtain ⟨v16, x7, hrun, hown, hgb, hbel⟩ := app_l x4 V.heap.size (.slice (some ⟨g0, 0, none⟩) 0 0) 0 [] a2 lt c2 H OL.out (HRH.out.below hH) (by omega) hH.size 28
    refine step_append_run rfl (.tmp 14) (.tmp 15) 28 rfl _ _ rfl rfl _ _ hrun ?_
    have OA : Hid (x7.ownsRow V.heap.size 5 1 v16 lt (List.map (Value.int .u8) H)) := by unfold Hid; simpa using hown
    refine hK.out _ _ (Below.trans hH hbel) (fun hH' => ?_)
    clear hK K hH; have hH := hH'; clear hH'; try simp only [List.setIfInBounds_toArray, List.set]
    try simp only [Act.put, List.setIfInBounds_toArray, List.set_cons_zero, List.set_cons_succ]
    clear hrun hown hgb hbel OL
    refine rdy 7 (fun K hK => ?sr8)
    case sr8 =>
     go_simp
     refine (rtagof_c key nonce aa la ca ad a2 lt c2 H HK.out HN.out _ (HRA.out.below hH) (HRH.out.below hH) (HG.out.later hH) (by omega)).mono ?_
     rintro e V10 ⟨gT, TG, rfl, HTG, RT, hgT0, hb⟩
     refine hK.out _ _ (hH.trans hb) (fun hH' => ?_)
     clear hK K hH; have hH := hH'; clear hH'; try simp only [List.setIfInBounds_toArray, List.set]
     replace OA : Hid (V10.ownsRow V.heap.size 5 1 v16 lt (List.map (Value.int .u8) H)) := own_later OA.out hb
     clear hb hgT0
     exact hrest V10 v16 g0 gT TG ⟨hH, OA, RT, HTG⟩
 case hr =>
  rintro Y v16 g0 gT TG ⟨hE, OA, RT, HTG⟩
  have hH := hE.out
  clear hE
  obtain ⟨v22, Y2, hrun, hown, hgb, hbel⟩ := app_l Y V.heap.size v16 lt H (some ⟨gT, 0, none⟩) 16 16 TG OA.out RT.out (by omega) hH.size 28
  refine rdy 8 (fun K hK => ?_)
  refine step_append_run rfl (.tmp 16) (.tmp 21) 28 rfl _ _ rfl rfl _ _ hrun ?_
  refine hK.out _ _ (Below.trans hH hbel) (fun hH' => ?_)
  clear hK K hH; have hH := hH'; clear hH'; try simp only [List.setIfInBounds_toArray, List.set]
  refine tk 9 ?_
  try simp only [Act.put, List.setIfInBounds_toArray, List.set_cons_zero, List.set_cons_succ]
  refine wpAnyH_done (by kernel_rfl) ?_ _
  refine NoPanic.normal ?_
  replace HB := hidp (HB.out.trans (Below.mono hH HB.out.size))
  have HOF : Hid (Y2.ownsRow w.heap.size 5 1 v22 (lt + 16) (List.map (Value.int .u8) (se6 key nonce ad text))) := by
   unfold Hid se6
   rw [← HH.out, ← HTG.out]
   exact owns_base (by simpa using hown) hbV
  clear hrun hown hgb hbel hH OA RT
  obtain ⟨a22, c22, rfl⟩ := owns_shape HOF.out
  go_wp2
  go_ret
  exact ⟨a22, lt + 16, c22, _, rfl, rfl, rfl, HOF, HB.out⟩
end Go.Proofs.YtmibjgkakolhiaaGreatDoor
