/-
  What a State's MixKey and Split do. No statement of the seat is proved here.
-/
import Derived.Test.YtmibjgkakolhiaaDoorYOps
import Derived.Test.YtmibjgkakolhiaaDoorETw1
import Derived.Test.YtmibjgkakolhiaaDoorVOps
namespace Go.Proofs.YtmibjgkakolhiaaDoor
open Go.RowKit

set_option maxRecDepth 8000 in
set_option maxHeartbeats 4000000 in
theorem mixkey10_c (b : Nat) (k : List Int) (h : Bool) (n : Int) (H C : List Int) (a : Option Addr) (len cap : Nat) (x : List Int) (w : World) (hs : My w b k h n H C) (hr : Rd w a len cap x) (hg : Gb w) (hm : len ≤ 281474976710656) :
    Calls Tryd.prog 13 #[.pointer (some ⟨b, 0, none⟩), .slice a len cap] w fun e w' => ∃ K C', e = .returned (.tuple #[]) ∧ Hid (C' = ky8 (hm8 C x) 1) ∧ Hid (K = ky8 (hm8 C x) 2) ∧ Hid (My w' b K true 0 H C') ∧ ExtB b w w' := by
  have HS : Hid (My w b k h n H C) := hs
  have HG : Hid (Gb w) := hg
  have HR : Hid (Rd w a len cap x) := hr
  have hRC := hs.co.rng
  obtain ⟨_, _, hiC⟩ := bn32_cells hs.bc
  clear hs hr hg
  go_enter Tryd.func13, Tryd.ntmps13
  go_wp2_with (refine wpList_load_mid rfl 27 (.tmp 7) rfl b 66 rfl (List.map (Value.int .u8) C) _ hRC Tryd.underlying27 rfl hiC ?_)
  clear hRC hiC
  refine (derive2_l C a len cap x HS.out.bc _ HR.out HG.out (by omega)).mono ?_
  rintro e V ⟨g, A, B, rfl, HA, HBB, RA, RB, hb⟩
  replace HS : Hid (My V b k h n H C) := HS.out.later hb
  have HE : Hid (ExtB b w V) := extb_of hb
  have HAn : Hid (Bn 32 A) := by unfold Hid; rw [HA.out]; exact ky8_bn _ 0
  have HBn : Hid (Bn 32 B) := by unfold Hid; rw [HBB.out]; exact ky8_bn _ 1
  have hgb : g ≠ b := HS.out.far HBn.out RB.out
  clear hb HR HG
  obtain ⟨hlen', hone, hi⟩ := bn32_cells HAn.out
  have hR := RA.out
  obtain ⟨cs, hcs⟩ : ∃ cs, cs = (List.map (Value.int .u8) A) := ⟨_, rfl⟩
  have HCS : Hid (cs = (List.map (Value.int .u8) A)) := hcs
  rw [← hcs] at hlen' hone hi hR
  clear hcs RA
  have hth := HS.out.co.all
  go_upto_region 2 with (first
    | (refine wpList_load_mid rfl 27 (.tmp 13) rfl g 0 rfl cs _ hR Tryd.underlying27 rfl hi ?_)
    | (refine wpList_store_mid rfl 27 (.tmp 16) (.tmp 14) rfl b 66 cs.toArray rfl rfl (by simpa [hlen'] using hth) (by simpa using hi) (all_oneCell_toArray hone) ?_))
  have hx : ExtB b V (V.setCells b 66 cs) := extB_setCells _ _ _ (ExtB.refl _ _)
  replace RB : Hid ((V.setCells b 66 cs).rangeAt g 32 (List.map (Value.int .u8) B)) := fun j v hv => hx.cell hgb (RB.out j v hv)
  replace HE : Hid (ExtB b w (V.setCells b 66 cs)) := HE.out.comp hx
  replace HS : Hid (My (V.setCells b 66 cs) b k h n H A) := by unfold Hid; rw [HCS.out]; exact HS.out.setC HAn.out
  obtain ⟨W2, hW2⟩ : ∃ W, W = V.setCells b 66 cs := ⟨_, rfl⟩
  rw [← hW2] at RB HE HS ⊢
  clear hW2 hx hth hR hlen' hone hi HCS
  obtain ⟨_, _, hiB⟩ := bn32_cells HBn.out
  go_upto_region 2 with fail
  refine wp_region_noPanic ?_
  refine wp_region_held_drew (S := ExtB b W2) (by kernel_rfl) (ExtB.refl b W2).drew (fun hH => ?_)
  change wpAnyH _ _ _ _ _ _ #[false, false, false, false, false, false, false] _ _
  refine wpAnyH_take (i := 0) (oi := ?o0f) (v := ?v0f) ?h0f (by kernel_rfl) ?f0f ?r0f (fun _ _ _ h => h) (Or.inl ⟨?w0f, ?y0f⟩) (by assumption) ?t0f
  case h0f => simp only [List.getElem?_toArray]; rfl
  case f0f => kernel_rfl
  case r0f => kernel_rfl
  case w0f => rfl
  case y0f => (intro u hu; (go_simp) <;> with_reducible rfl)
  try simp only [Act.put, List.setIfInBounds_toArray, List.set_cons_zero, List.set_cons_succ]
  refine wpAnyH_take (i := 1) (oi := ?o1f) (v := ?v1f) ?h1f (by kernel_rfl) ?f1f ?r1f (fun _ _ _ h => h) (Or.inl ⟨?w1f, ?y1f⟩) (by assumption) ?t1f
  case h1f => simp only [List.getElem?_toArray]; rfl
  case f1f => kernel_rfl
  case r1f => kernel_rfl
  case w1f => rfl
  case y1f => (intro u hu; (go_simp) <;> with_reducible rfl)
  try simp only [Act.put, List.setIfInBounds_toArray, List.set_cons_zero, List.set_cons_succ]
  refine wpAnyH_take (i := 2) (oi := ?o2f) (v := ?v2f) ?h2f (by kernel_rfl) ?f2f ?r2f (fun _ _ _ h => h) (Or.inl ⟨?w2f, ?y2f⟩) (by assumption) ?t2f
  case h2f => simp only [List.getElem?_toArray]; rfl
  case f2f => kernel_rfl
  case r2f => kernel_rfl
  case w2f => rfl
  case y2f => (intro u hu; (go_simp) <;> with_reducible rfl)
  try simp only [Act.put, List.setIfInBounds_toArray, List.set_cons_zero, List.set_cons_succ]
  refine wpAnyH_take (i := 3) (oi := ?o3f) (v := ?v3f) ?h3f (by kernel_rfl) ?f3f ?r3f (fun _ _ _ h => h) (Or.inl ⟨?w3f, ?y3f⟩) (by assumption) ?t3f
  case h3f => simp only [List.getElem?_toArray]; rfl
  case f3f => kernel_rfl
  case r3f => kernel_rfl
  case w3f => rfl
  case y3f => (intro u hu; (go_simp) <;> with_reducible rfl)
  try simp only [Act.put, List.setIfInBounds_toArray, List.set_cons_zero, List.set_cons_succ]
  refine wpAnyH_take (i := 4) (oi := ?o4f) (v := ?v4f) ?h4f (by kernel_rfl) ?f4f ?r4f (fun _ _ _ h => h) (Or.inl ⟨?w4f, ?y4f⟩) (by assumption) ?t4f
  case h4f => simp only [List.getElem?_toArray]; rfl
  case f4f => kernel_rfl
  case r4f => kernel_rfl
  case w4f => rfl
  case y4f => (intro u hu; (go_simp) <;> with_reducible rfl)
  try simp only [Act.put, List.setIfInBounds_toArray, List.set_cons_zero, List.set_cons_succ]
  refine wpAnyH_take (i := 5) (oi := ?o5ld) (v := .agg (List.map (Value.int .u8) B).toArray) ?h5ld (by kernel_rfl) ?f5ld ?r5ld (fun _ _ _ h => h) ?y5ld (by assumption) ?t5ld
  case h5ld => simp only [List.getElem?_toArray]; rfl
  case f5ld => kernel_rfl
  case r5ld => kernel_rfl
  case y5ld => exact yieldsIf_load_mid (by rfl) 27 (.tmp 21) rfl g 32 rfl (List.map (Value.int .u8) B) _ (fun u hu j v hv => ExtB.cell hu hgb (RB.out j v hv)) Tryd.underlying27 rfl hiB
  try simp only [Act.put, List.setIfInBounds_toArray, List.set_cons_zero, List.set_cons_succ]
  refine wpAnyH_ready (rs := [6]) (by kernel_rfl) (by simp) ?_
  refine AllReadyH.cons (o := ?o6f) ?h6f (fun K hK => ?_) AllReadyH.nil
  case h6f => simp only [List.getElem?_toArray]; rfl
  go_simp
  refine (init9_o b 0 k h n B HBn.out _ HS.out.drew.sy).mono ?_
  rintro e V3 ⟨rfl, HT, hx⟩
  refine hK.out _ _ ((ExtB.refl b W2).drew.comp hx.ext) (fun hH' => ?_)
  clear hK K hH
  have hH := hH'
  clear hH'
  try simp only [List.setIfInBounds_toArray, List.set]
  refine wpAnyH_done (by kernel_rfl) ?_ _
  refine NoPanic.normal ?_
  replace HS : Hid (My V3 b B true 0 H A) := HS.out.drew.cip HT.out hx
  replace HE : Hid (ExtB b w V3) := HE.out.comp hH
  clear HT hx RB hiB hH
  go_wp2
  go_end0
  exact ⟨B, A, rfl, HA, HBB, HS, HE.out⟩
set_option maxRecDepth 8000 in
set_option maxHeartbeats 2000000 in
theorem withkey_c (key : List Int) (hk : Bn 32 key) (w : World) :
    Calls Tryd.prog 32 #[(.agg (List.map (Value.int .u8) key).toArray)] w fun e w' => ∃ c, e = .returned (.pointer (some ⟨c, 0, none⟩)) ∧ w.heap.size ≤ c ∧ Hid (Sx w' c key true 0) ∧ Below w.heap.size w w' := by
  have HK : Hid (Bn 32 key) := hk
  clear hk
  obtain ⟨_, _, hiK⟩ := bn32_cells HK.out
  go_enter Tryd.func32, Tryd.ntmps32
  go_upto_region 1 with fail
  have AK : Hid (Ar (w.alloc (.cells (List.map (Value.int .u8) key).toArray 27)) w.heap.size 32 (List.map (Value.int .u8) key)) := ar_box w _ 32 HK.out.map_len _
  have HB : Hid (Below w.heap.size w (w.alloc (.cells (List.map (Value.int .u8) key).toArray 27))) := bel1 _ _
  obtain ⟨W0, hW0⟩ : ∃ W, W = (w.alloc (.cells (List.map (Value.int .u8) key).toArray 27)) := ⟨_, rfl⟩
  obtain ⟨q1, hq1⟩ : ∃ q, q = w.heap.size := ⟨_, rfl⟩
  rw [← hW0] at AK HB ⊢
  rw [← hq1] at AK ⊢
  clear hW0 hq1
  go_wp2_with fail
  refine (new9_c _).mono ?_
  rintro e V ⟨rfl, HS, hb⟩
  obtain ⟨c, hc⟩ : ∃ q, q = W0.heap.size := ⟨_, rfl⟩
  rw [← hc] at HS ⊢
  have kc : w.heap.size ≤ c := by rw [hc]; exact HB.out.size
  replace AK : Hid (Ar V q1 32 (List.map (Value.int .u8) key)) := AK.out.later hb
  replace HB : Hid (Below w.heap.size w V) := HB.out.trans (hb.mono HB.out.size)
  clear hb hc
  go_wp2_with (refine wpList_load_mid rfl 27 (.tmp 1) rfl q1 0 rfl (List.map (Value.int .u8) key) _ AK.out.rng Tryd.underlying27 rfl hiK ?_)
  refine (init9_c c z9l false 0 key HK.out _ HS.out).mono ?_
  rintro e V2 ⟨rfl, HS2, hx⟩
  replace HB : Hid (Below w.heap.size w V2) := hx.below HB.out kc
  clear hx HS AK hiK
  go_wp2
  go_ret
  exact ⟨c, rfl, kc, HS2, HB.out⟩
set_option maxRecDepth 8000 in
set_option maxHeartbeats 4000000 in
theorem split10_c (b : Nat) (k : List Int) (h : Bool) (n : Int) (H C : List Int) (w : World) (hs : My w b k h n H C) (hg : Gb w) :
    Calls Tryd.prog 15 #[.pointer (some ⟨b, 0, none⟩)] w fun e w' => ∃ c d A B, e = .returned (.tuple #[.pointer (some ⟨c, 0, none⟩), .pointer (some ⟨d, 0, none⟩)]) ∧ Hid (A = ky8 (hm8 C []) 1) ∧ Hid (B = ky8 (hm8 C []) 2) ∧ Hid (Sx w' c A true 0) ∧ Hid (Sx w' d B true 0) ∧ w.heap.size ≤ c ∧ w.heap.size ≤ d ∧ c ≠ d ∧ Below w.heap.size w w' := by
  have HS : Hid (My w b k h n H C) := hs
  have HG : Hid (Gb w) := hg
  have hRC := hs.co.rng
  obtain ⟨_, _, hiC⟩ := bn32_cells hs.bc
  clear hs hg
  go_enter Tryd.func15, Tryd.ntmps15
  go_wp2_with (refine wpList_load_mid rfl 27 (.tmp 7) rfl b 66 rfl (List.map (Value.int .u8) C) _ hRC Tryd.underlying27 rfl hiC ?_)
  clear hRC hiC
  refine (derive2_l C none 0 0 [] HS.out.bc _ (Rd.nil _ _ _ (fun _ => rfl)) HG.out (by decide)).mono ?_
  rintro e V ⟨g, A, B, rfl, HA, HBB, RA, RB, hb⟩
  have HB : Hid (Below w.heap.size w V) := hb
  have HAn : Hid (Bn 32 A) := by unfold Hid; rw [HA.out]; exact ky8_bn _ 0
  have HBn : Hid (Bn 32 B) := by unfold Hid; rw [HBB.out]; exact ky8_bn _ 1
  obtain ⟨_, _, hiA⟩ := bn32_cells HAn.out
  obtain ⟨_, _, hiB⟩ := bn32_cells HBn.out
  clear hb HS HG
  go_upto_region 2 with fail
  refine wp_region_noPanic ?_
  refine wp_region_held_drew (S := Ext V) (by kernel_rfl) (Ext.refl _).drew (fun hH => ?_)
  change wpAnyH _ _ _ _ _ _ #[false, false, false, false, false, false, false, false, false, false] _ _
  refine wpAnyH_take (i := 0) (oi := ?o0s) (v := ?v0s) ?h0s (by kernel_rfl) ?f0s ?r0s (fun _ _ _ h => h) (Or.inl ⟨?w0s, ?y0s⟩) (by assumption) ?t0s
  case h0s => simp only [List.getElem?_toArray]; rfl
  case f0s => kernel_rfl
  case r0s => kernel_rfl
  case w0s => rfl
  case y0s => (intro u hu; (go_simp) <;> with_reducible rfl)
  try simp only [Act.put, List.setIfInBounds_toArray, List.set_cons_zero, List.set_cons_succ]
  refine wpAnyH_take (i := 1) (oi := ?o1s) (v := ?v1s) ?h1s (by kernel_rfl) ?f1s ?r1s (fun _ _ _ h => h) (Or.inl ⟨?w1s, ?y1s⟩) (by assumption) ?t1s
  case h1s => simp only [List.getElem?_toArray]; rfl
  case f1s => kernel_rfl
  case r1s => kernel_rfl
  case w1s => rfl
  case y1s => (intro u hu; (go_simp) <;> with_reducible rfl)
  try simp only [Act.put, List.setIfInBounds_toArray, List.set_cons_zero, List.set_cons_succ]
  refine wpAnyH_take (i := 2) (oi := ?o2ld) (v := .agg (List.map (Value.int .u8) A).toArray) ?h2ld (by kernel_rfl) ?f2ld ?r2ld (fun _ _ _ h => h) ?y2ld (by assumption) ?t2ld
  case h2ld => simp only [List.getElem?_toArray]; rfl
  case f2ld => kernel_rfl
  case r2ld => kernel_rfl
  case y2ld => exact yieldsIf_load_mid (by rfl) 27 (.tmp 11) rfl g 0 rfl (List.map (Value.int .u8) A) _ (fun u hu => range_later hu RA.out) Tryd.underlying27 rfl hiA
  try simp only [Act.put, List.setIfInBounds_toArray, List.set_cons_zero, List.set_cons_succ]
  refine wpAnyH_take (i := 4) (oi := ?o4s) (v := ?v4s) ?h4s (by kernel_rfl) ?f4s ?r4s (fun _ _ _ h => h) (Or.inl ⟨?w4s, ?y4s⟩) (by assumption) ?t4s
  case h4s => simp only [List.getElem?_toArray]; rfl
  case f4s => kernel_rfl
  case r4s => kernel_rfl
  case w4s => rfl
  case y4s => (intro u hu; (go_simp) <;> with_reducible rfl)
  try simp only [Act.put, List.setIfInBounds_toArray, List.set_cons_zero, List.set_cons_succ]
  refine wpAnyH_take (i := 5) (oi := ?o5s) (v := ?v5s) ?h5s (by kernel_rfl) ?f5s ?r5s (fun _ _ _ h => h) (Or.inl ⟨?w5s, ?y5s⟩) (by assumption) ?t5s
  case h5s => simp only [List.getElem?_toArray]; rfl
  case f5s => kernel_rfl
  case r5s => kernel_rfl
  case w5s => rfl
  case y5s => (intro u hu; (go_simp) <;> with_reducible rfl)
  try simp only [Act.put, List.setIfInBounds_toArray, List.set_cons_zero, List.set_cons_succ]
  refine wpAnyH_take (i := 6) (oi := ?o6l2) (v := .agg (List.map (Value.int .u8) B).toArray) ?h6l2 (by kernel_rfl) ?f6l2 ?r6l2 (fun _ _ _ h => h) ?y6l2 (by assumption) ?t6l2
  case h6l2 => simp only [List.getElem?_toArray]; rfl
  case f6l2 => kernel_rfl
  case r6l2 => kernel_rfl
  case y6l2 => exact yieldsIf_load_mid (by rfl) 27 (.tmp 15) rfl g 32 rfl (List.map (Value.int .u8) B) _ (fun u hu => range_later hu RB.out) Tryd.underlying27 rfl hiB
  try simp only [Act.put, List.setIfInBounds_toArray, List.set_cons_zero, List.set_cons_succ]
  refine wpAnyH_ready (rs := [3]) (by kernel_rfl) (by simp) ?_
  refine AllReadyH.cons (o := ?o3z) ?h3z (fun K hK => ?_) AllReadyH.nil
  case h3z => simp only [List.getElem?_toArray]; rfl
  go_simp
  refine (withkey_c A HAn.out _).mono ?_
  rintro e V1 ⟨c, rfl, kc, HSc, hb⟩
  have kcV : V.heap.size ≤ c := Nat.le_trans hH.size kc
  clear kc
  refine hK.out _ _ (hH.trans hb) (fun hH' => ?_)
  clear hK K hH
  have hH := hH'
  clear hH'
  try simp only [List.setIfInBounds_toArray, List.set]
  clear hb
  refine wpAnyH_ready (rs := [7]) (by kernel_rfl) (by simp) ?_
  refine AllReadyH.cons (o := ?o7z) ?h7z (fun K hK => ?_) AllReadyH.nil
  case h7z => simp only [List.getElem?_toArray]; rfl
  go_simp
  have kcl := HSc.out.lt
  refine (withkey_c B HBn.out _).mono ?_
  rintro e V2 ⟨d, rfl, kd, HSd, hb⟩
  replace HSc : Hid (Sx V2 c A true 0) := HSc.out.later hb
  have kcd : c ≠ d := by omega
  have kdV : V.heap.size ≤ d := by omega
  clear kd kcl
  refine hK.out _ _ (hH.trans hb) (fun hH' => ?_)
  clear hK K hH
  have hH := hH'
  clear hH'
  try simp only [List.setIfInBounds_toArray, List.set]
  clear hb
  refine wpAnyH_take (i := 8) (oi := ?o8z) (v := ?v8z) ?h8z (by kernel_rfl) ?f8z ?r8z (fun _ _ _ h => h) (Or.inl ⟨?w8z, ?y8z⟩) (by assumption) ?t8z
  case h8z => simp only [List.getElem?_toArray]; rfl
  case f8z => kernel_rfl
  case r8z => kernel_rfl
  case w8z => rfl
  case y8z => (intro u hu; (go_simp) <;> with_reducible rfl)
  try simp only [Act.put, List.setIfInBounds_toArray, List.set_cons_zero, List.set_cons_succ]
  refine wpAnyH_take (i := 9) (oi := ?o9z) (v := ?v9z) ?h9z (by kernel_rfl) ?f9z ?r9z (fun _ _ _ h => h) (Or.inl ⟨?w9z, ?y9z⟩) (by assumption) ?t9z
  case h9z => simp only [List.getElem?_toArray]; rfl
  case f9z => kernel_rfl
  case r9z => kernel_rfl
  case w9z => rfl
  case y9z => (intro u hu; (go_simp) <;> with_reducible rfl)
  try simp only [Act.put, List.setIfInBounds_toArray, List.set_cons_zero, List.set_cons_succ]
  refine wpAnyH_done (by kernel_rfl) ?_ _
  refine NoPanic.normal ?_
  have hb2 : Below V.heap.size V _ := hH
  have kc : w.heap.size ≤ c := Nat.le_trans HB.out.size kcV
  have kd : w.heap.size ≤ d := Nat.le_trans HB.out.size kdV
  replace HB : Hid (Below w.heap.size w _) := HB.out.trans (hb2.mono HB.out.size)
  clear hH hb2 RA RB hiA hiB
  go_wp2
  go_ret2
  exact ⟨c, d, A, B, rfl, HA, HBB, HSc, HSd, kc, kd, kcd, HB.out⟩
end Go.Proofs.YtmibjgkakolhiaaDoor
