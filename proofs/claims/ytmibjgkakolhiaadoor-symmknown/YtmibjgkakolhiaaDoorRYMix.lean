/-
  What the reference's Symm's MixKey does. No statement of the seat is proved here.
-/
import Derived.Test.YtmibjgkakolhiaaDoorPk40
import Derived.Test.YtmibjgkakolhiaaDoorPk46
import Derived.Test.YtmibjgkakolhiaaDoorPk21
namespace Go.Proofs.YtmibjgkakolhiaaDoor
open Go.RowKit

set_option maxRecDepth 8000 in
theorem rderive2_b (chain : List Int) (a : Option Addr) (len cap : Nat) (input : List Int) (hc : Bn 32 chain) (w : World) (hr : Rd w a len cap input) (hg : Gq w) (hT : 64 + len ≤ 140737488355328) :
    Calls Tryd.prog 30 #[(.agg (List.map (Value.int .u8) chain).toArray), .slice a len cap, .int .i64 2] w fun e w' => ∃ g c A B, e = .returned (.slice (some ⟨g, 0, none⟩) 2 c) ∧ Hid (A = ky8 (hm8 chain input) 1) ∧ Hid (B = ky8 (hm8 chain input) 2) ∧ Hid (w'.rangeAt g 0 (List.map (Value.int .u8) A)) ∧ Hid (w'.rangeAt g 32 (List.map (Value.int .u8) B)) ∧ Below w.heap.size w w' :=
  (rderive_yes chain a len cap input 2 hc (.inl rfl) w hr hg hT).mono fun _ _ ⟨g, c, h, hR, hb⟩ => ⟨g, c, _, _, h, rfl, rfl, (two_of hR.out).1, (two_of hR.out).2, hb⟩
set_option maxRecDepth 8000 in
set_option maxHeartbeats 4000000 in
theorem rmixkey10_c (b : Nat) (k : List Int) (h : Bool) (n : Int) (H C : List Int) (a : Option Addr) (len cap : Nat) (x : List Int) (w : World) (hs : Ny w b k h n H C) (hr : Rd w a len cap x) (hg : Gq w) (hm : len ≤ 140737488351248) :
    Calls Tryd.prog 14 #[.pointer (some ⟨b, 0, none⟩), .slice a len cap] w fun e w' => ∃ K C', e = .returned (.tuple #[]) ∧ Hid (C' = ky8 (hm8 C x) 1) ∧ Hid (K = ky8 (hm8 C x) 2) ∧ Hid (Ny w' b K true 0 H C') ∧ ExtB b w w' := by
  have HS : Hid (Ny w b k h n H C) := hs
  have HG : Hid (Gq w) := hg
  have HR : Hid (Rd w a len cap x) := hr
  have hRC := hs.co.rng
  obtain ⟨_, _, hiC⟩ := bn32_cells hs.bc
  clear hs hr hg
  go_enter Tryd.func14, Tryd.ntmps14
  go_wp2_with (refine wpList_load_mid rfl 27 (.tmp 7) rfl b 66 rfl (List.map (Value.int .u8) C) _ hRC Tryd.underlying27 rfl hiC ?_)
  clear hRC hiC
  refine (rderive2_b C a len cap x HS.out.bc _ HR.out HG.out (by omega)).mono ?_
  rintro e V ⟨g, gc, A, B, rfl, HA, HBB, RA, RB, hb⟩
  replace HS : Hid (Ny V b k h n H C) := HS.out.later hb
  have HE : Hid (ExtB b w V) := extb_of hb
  have HAn : Hid (Bn 32 A) := by unfold Hid; rw [HA.out]; exact ky8_bn _ 0
  have HBn : Hid (Bn 32 B) := by unfold Hid; rw [HBB.out]; exact ky8_bn _ 1
  have hgb : g ≠ b := HS.out.far HAn.out RA.out
  clear hb HR HG
  obtain ⟨hlen', hone, hi⟩ := bn32_cells HAn.out
  have hR := RA.out
  obtain ⟨cs, hcs⟩ : ∃ cs, cs = (List.map (Value.int .u8) A) := ⟨_, rfl⟩
  have HCS : Hid (cs = (List.map (Value.int .u8) A)) := hcs
  rw [← hcs] at hlen' hone hi hR
  clear hcs RA
  have hth := HS.out.co.all
  go_upto_region 2 with (first
    | (refine wpList_load_mid rfl 27 (.tmp 13) rfl g 0 rfl cs _ hR Tryd.underlying27 rfl hi ?_)
    | (refine wpList_store_mid rfl 27 (.tmp 16) (.tmp 14) rfl b 66 cs.toArray rfl rfl (by simpa [hlen'] using hth) (by simpa using hi) (all_oneCell_toArray hone) ?_))
  have hx : ExtB b V (V.setCells b 66 cs) := extB_setCells _ _ _ (ExtB.refl _ _)
  replace RB : Hid ((V.setCells b 66 cs).rangeAt g 32 (List.map (Value.int .u8) B)) := fun j v hv => hx.cell hgb (RB.out j v hv)
  replace HE : Hid (ExtB b w (V.setCells b 66 cs)) := HE.out.comp hx
  replace HS : Hid (Ny (V.setCells b 66 cs) b k h n H A) := by unfold Hid; rw [HCS.out]; exact HS.out.setC HAn.out
  obtain ⟨W2, hW2⟩ : ∃ W, W = V.setCells b 66 cs := ⟨_, rfl⟩
  rw [← hW2] at RB HE HS ⊢
  clear hW2 hx hth hR hlen' hone hi HCS
  obtain ⟨_, _, hiB⟩ := bn32_cells HBn.out
  go_upto_region 2 with fail
  refine wp_region_noPanic ?_
  refine wp_region_held_drew (S := ExtB b W2) (by kernel_rfl) (ExtB.refl b W2).drew (fun hH => ?_)
  change wpAnyH _ _ _ _ _ _ #[false, false, false, false, false, false, false] _ _
  refine wpAnyH_take (i := 0) (oi := ?o0f) (v := ?v0f) ?h0f (by kernel_rfl) ?f0f ?r0f (fun _ _ _ h => h) (Or.inl ⟨?w0f, ?y0f⟩) (by assumption) ?t0f
  case h0f => simp only [List.getElem?_toArray]; rfl
  case f0f => kernel_rfl
  case r0f => kernel_rfl
  case w0f => rfl
  case y0f => (intro u hu; (go_simp) <;> with_reducible rfl)
  try simp only [Act.put, List.setIfInBounds_toArray, List.set_cons_zero, List.set_cons_succ]
  refine wpAnyH_take (i := 1) (oi := ?o1f) (v := ?v1f) ?h1f (by kernel_rfl) ?f1f ?r1f (fun _ _ _ h => h) (Or.inl ⟨?w1f, ?y1f⟩) (by assumption) ?t1f
  case h1f => simp only [List.getElem?_toArray]; rfl
  case f1f => kernel_rfl
  case r1f => kernel_rfl
  case w1f => rfl
  case y1f => (intro u hu; (go_simp) <;> with_reducible rfl)
  try simp only [Act.put, List.setIfInBounds_toArray, List.set_cons_zero, List.set_cons_succ]
  refine wpAnyH_take (i := 2) (oi := ?o2f) (v := ?v2f) ?h2f (by kernel_rfl) ?f2f ?r2f (fun _ _ _ h => h) (Or.inl ⟨?w2f, ?y2f⟩) (by assumption) ?t2f
  case h2f => simp only [List.getElem?_toArray]; rfl
  case f2f => kernel_rfl
  case r2f => kernel_rfl
  case w2f => rfl
  case y2f => (intro u hu; (go_simp) <;> with_reducible rfl)
  try simp only [Act.put, List.setIfInBounds_toArray, List.set_cons_zero, List.set_cons_succ]
  refine wpAnyH_take (i := 3) (oi := ?o3f) (v := ?v3f) ?h3f (by kernel_rfl) ?f3f ?r3f (fun _ _ _ h => h) (Or.inl ⟨?w3f, ?y3f⟩) (by assumption) ?t3f
  case h3f => simp only [List.getElem?_toArray]; rfl
  case f3f => kernel_rfl
  case r3f => kernel_rfl
  case w3f => rfl
  case y3f => (intro u hu; (go_simp) <;> with_reducible rfl)
  try simp only [Act.put, List.setIfInBounds_toArray, List.set_cons_zero, List.set_cons_succ]
  refine wpAnyH_take (i := 4) (oi := ?o4f) (v := ?v4f) ?h4f (by kernel_rfl) ?f4f ?r4f (fun _ _ _ h => h) (Or.inl ⟨?w4f, ?y4f⟩) (by assumption) ?t4f
  case h4f => simp only [List.getElem?_toArray]; rfl
  case f4f => kernel_rfl
  case r4f => kernel_rfl
  case w4f => rfl
  case y4f => (intro u hu; (go_simp) <;> with_reducible rfl)
  try simp only [Act.put, List.setIfInBounds_toArray, List.set_cons_zero, List.set_cons_succ]
  refine wpAnyH_take (i := 5) (oi := ?o5ld) (v := .agg (List.map (Value.int .u8) B).toArray) ?h5ld (by kernel_rfl) ?f5ld ?r5ld (fun _ _ _ h => h) ?y5ld (by assumption) ?t5ld
  case h5ld => simp only [List.getElem?_toArray]; rfl
  case f5ld => kernel_rfl
  case r5ld => kernel_rfl
  case y5ld => exact yieldsIf_load_mid (by rfl) 27 (.tmp 21) rfl g 32 rfl (List.map (Value.int .u8) B) _ (fun u hu j v hv => ExtB.cell hu hgb (RB.out j v hv)) Tryd.underlying27 rfl hiB
  try simp only [Act.put, List.setIfInBounds_toArray, List.set_cons_zero, List.set_cons_succ]
  refine wpAnyH_ready (rs := [6]) (by kernel_rfl) (by simp) ?_
  refine AllReadyH.cons (o := ?o6f) ?h6f (fun K hK => ?_) AllReadyH.nil
  case h6f => simp only [List.getElem?_toArray]; rfl
  go_simp
  refine (rinit9_o b 0 k h n B HBn.out _ HS.out.drew.cy).mono ?_
  rintro e V3 ⟨rfl, HT, hx⟩
  refine hK.out _ _ ((ExtB.refl b W2).drew.comp hx.ext) (fun hH' => ?_)
  clear hK K hH
  have hH := hH'
  clear hH'
  try simp only [List.setIfInBounds_toArray, List.set]
  refine wpAnyH_done (by kernel_rfl) ?_ _
  refine NoPanic.normal ?_
  replace HS : Hid (Ny V3 b B true 0 H A) := HS.out.drew.cip HT.out hx
  replace HE : Hid (ExtB b w V3) := HE.out.comp hH
  clear HT hx RB hiB hH
  go_wp2
  go_end0
  exact ⟨B, A, rfl, HA, HBB, HS, HE.out⟩
end Go.Proofs.YtmibjgkakolhiaaDoor
