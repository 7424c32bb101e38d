/-
  What chapter 8's laws do first: their known. No statement of the seat is proved here.
-/
import Derived.Test.YtiicepinnfgknaaDoorETwo
import Derived.Test.YtiicepinnfgknaaDoorKSec
import Derived.Test.YtiicepinnfgknaaDoorKLit
namespace Go.Proofs.YtiicepinnfgknaaDoor
open Go.RowKit

def x8 : List Int := [120]
set_option maxRecDepth 8000 in
set_option maxHeartbeats 8000000 in
theorem known8_any (w : World) (hg : Gb w) (hq : Gq w) : Calls Tryd.prog 7 #[] w fun e w' => e = .returned (.bool true) ∧ Below w.heap.size w w' := by
  have HG : Hid (Gb w) := hg
  have HQ : Hid (Gq w) := hq
  clear hg hq
  go_enter Tryd.func7, Tryd.ntmps7
  go_wp2_with fail
  refine (secret_l 1 _).mono ?_
  rintro e V1s ⟨K1, rfl, HK1, HK1n, hb⟩
  have HB : Hid (Below w.heap.size w V1s) := hb
  clear hb
  have v1 := Go.Lib.run_convert_bytes_const (P := Tryd.prog) V1s 27 5 #[.int .u8 120] 1 1 Tryd.underlying27 Tryd.underlying5
  simp only [List.size_toArray, List.length_cons, List.length_nil, Nat.zero_add, Nat.reduceAdd] at v1
  have HR1 : Hid (Rd (V1s.alloc (.cells #[.int .u8 120] 5 (1, 2))) (some ⟨V1s.heap.size, 0, none⟩) 1 1 [120]) := (rd_mark V1s [120] (byt5 _ (by decide)) 5 (1, 2) 1 (by decide) #[.int .u8 120] (fun i hi => by match i, hi with  | 0, _ => rfl))
  have hb1 := bel1 V1s (.cells #[.int .u8 120] 5 (1, 2))
  replace HB : Hid (Below w.heap.size w (V1s.alloc (.cells #[.int .u8 120] 5 (1, 2)))) := HB.out.trans (hb1.mono HB.out.size)
  go_wp2_with fail
  refine (derive2_l K1 (some ⟨V1s.heap.size, 0, none⟩) 1 1 [120] HK1n.out _ HR1.out (HG.out.later HB.out) (by decide)).mono ?_
  rintro e V1 ⟨g1, A1, B1, rfl, HA1, HB1, RA1, RB1, hb⟩
  replace HB : Hid (Below w.heap.size w V1) := HB.out.trans (hb.mono HB.out.size)
  clear hb hb1 v1 HR1
  go_wp2_with fail
  refine (secret_l 1 _).mono ?_
  rintro e V2s ⟨K2, rfl, HK2, HK2n, hb⟩
  replace RA1 : Hid (V2s.rangeAt g1 0 (List.map (Value.int .u8) A1)) := range_later hb RA1.out
  replace RB1 : Hid (V2s.rangeAt g1 32 (List.map (Value.int .u8) B1)) := range_later hb RB1.out
  replace HB : Hid (Below w.heap.size w V2s) := HB.out.trans (hb.mono HB.out.size)
  clear hb
  have v1 := Go.Lib.run_convert_bytes_const (P := Tryd.prog) V2s 27 5 #[.int .u8 120] 1 1 Tryd.underlying27 Tryd.underlying5
  simp only [List.size_toArray, List.length_cons, List.length_nil, Nat.zero_add, Nat.reduceAdd] at v1
  have HR1 : Hid (Rd (V2s.alloc (.cells #[.int .u8 120] 5 (1, 2))) (some ⟨V2s.heap.size, 0, none⟩) 1 1 [120]) := (rd_mark V2s [120] (byt5 _ (by decide)) 5 (1, 2) 1 (by decide) #[.int .u8 120] (fun i hi => by match i, hi with  | 0, _ => rfl))
  have hb1 := bel1 V2s (.cells #[.int .u8 120] 5 (1, 2))
  replace RA1 : Hid ((V2s.alloc (.cells #[.int .u8 120] 5 (1, 2))).rangeAt g1 0 (List.map (Value.int .u8) A1)) := range_later hb1 RA1.out
  replace RB1 : Hid ((V2s.alloc (.cells #[.int .u8 120] 5 (1, 2))).rangeAt g1 32 (List.map (Value.int .u8) B1)) := range_later hb1 RB1.out
  replace HB : Hid (Below w.heap.size w (V2s.alloc (.cells #[.int .u8 120] 5 (1, 2)))) := HB.out.trans (hb1.mono HB.out.size)
  go_wp2_with fail
  refine (derive3_l K2 (some ⟨V2s.heap.size, 0, none⟩) 1 1 [120] HK2n.out _ HR1.out (HG.out.later HB.out) (by decide)).mono ?_
  rintro e V2 ⟨g2, A2, B2, C2, rfl, HA2, HB2, -, RA2, RB2, -, hb⟩
  replace RA1 : Hid (V2.rangeAt g1 0 (List.map (Value.int .u8) A1)) := range_later hb RA1.out
  replace RB1 : Hid (V2.rangeAt g1 32 (List.map (Value.int .u8) B1)) := range_later hb RB1.out
  replace HB : Hid (Below w.heap.size w V2) := HB.out.trans (hb.mono HB.out.size)
  clear hb hb1 v1 HR1
  replace HQ : Hid (Gq V2) := HQ.out.later HB.out
  have HnA1 : Hid (Bn 32 A1) := by unfold Hid; rw [HA1.out]; exact ky8_bn _ 0
  have HnB1 : Hid (Bn 32 B1) := by unfold Hid; rw [HB1.out]; exact ky8_bn _ 1
  have HnA2 : Hid (Bn 32 A2) := by unfold Hid; rw [HA2.out]; exact ky8_bn _ 0
  have HnB2 : Hid (Bn 32 B2) := by unfold Hid; rw [HB2.out]; exact ky8_bn _ 1
  obtain ⟨_, _, hiA1⟩ := bn32_cells HnA1.out
  obtain ⟨_, _, hiB1⟩ := bn32_cells HnB1.out
  obtain ⟨_, _, hiA2⟩ := bn32_cells HnA2.out
  obtain ⟨_, _, hiB2⟩ := bn32_cells HnB2.out
  go_upto_region 3 with fail
  refine wp_region_noPanic ?_
  refine wp_region_held_drew (S := Ext V2) (by kernel_rfl) (Ext.refl _).drew (fun hH => ?_)
  change wpAnyH _ _ _ _ _ _ #[false, false, false, false, false, false, false, false, false, false, false, false, false, false, false, false, false, false, false, false, false, false, false, false, false, false, false, false, false, false, false, false, false, false, false, false, false, false, false] _ _
  refine wpAnyH_take (i := 0) (oi := ?o0r) (v := ?v0r) ?h0r (by kernel_rfl) ?f0r ?r0r (fun _ _ _ h => h) (Or.inl ⟨?w0r, ?y0r⟩) (by assumption) ?t0r
  case h0r => simp only [List.getElem?_toArray]; rfl
  case f0r => kernel_rfl
  case r0r => kernel_rfl
  case w0r => rfl
  case y0r => (intro u hu; (go_simp) <;> with_reducible rfl)
  try simp only [Act.put, List.setIfInBounds_toArray, List.set_cons_zero, List.set_cons_succ]
  refine wpAnyH_take (i := 1) (oi := ?o1r) (v := ?v1r) ?h1r (by kernel_rfl) ?f1r ?r1r (fun _ _ _ h => h) (Or.inl ⟨?w1r, ?y1r⟩) (by assumption) ?t1r
  case h1r => simp only [List.getElem?_toArray]; rfl
  case f1r => kernel_rfl
  case r1r => kernel_rfl
  case w1r => rfl
  case y1r => (intro u hu; (go_simp) <;> with_reducible rfl)
  try simp only [Act.put, List.setIfInBounds_toArray, List.set_cons_zero, List.set_cons_succ]
  refine wpAnyH_take (i := 2) (oi := ?o2r) (v := ?v2r) ?h2r (by kernel_rfl) ?f2r ?r2r (fun _ _ _ h => h) (Or.inl ⟨?w2r, ?y2r⟩) (by assumption) ?t2r
  case h2r => simp only [List.getElem?_toArray]; rfl
  case f2r => kernel_rfl
  case r2r => kernel_rfl
  case w2r => rfl
  case y2r => (intro u hu; (go_simp) <;> with_reducible rfl)
  try simp only [Act.put, List.setIfInBounds_toArray, List.set_cons_zero, List.set_cons_succ]
  refine wpAnyH_take (i := 3) (oi := ?o3r) (v := ?v3r) ?h3r (by kernel_rfl) ?f3r ?r3r (fun _ _ _ h => h) (Or.inl ⟨?w3r, ?y3r⟩) (by assumption) ?t3r
  case h3r => simp only [List.getElem?_toArray]; rfl
  case f3r => kernel_rfl
  case r3r => kernel_rfl
  case w3r => rfl
  case y3r => (intro u hu; (go_simp) <;> with_reducible rfl)
  try simp only [Act.put, List.setIfInBounds_toArray, List.set_cons_zero, List.set_cons_succ]
  refine wpAnyH_take (i := 4) (oi := ?o4r) (v := ?v4r) ?h4r (by kernel_rfl) ?f4r ?r4r (fun _ _ _ h => h) (Or.inl ⟨?w4r, ?y4r⟩) (by assumption) ?t4r
  case h4r => simp only [List.getElem?_toArray]; rfl
  case f4r => kernel_rfl
  case r4r => kernel_rfl
  case w4r => rfl
  case y4r => (intro u hu; (go_simp) <;> with_reducible rfl)
  try simp only [Act.put, List.setIfInBounds_toArray, List.set_cons_zero, List.set_cons_succ]
  refine wpAnyH_take (i := 5) (oi := ?o5r) (v := ?v5r) ?h5r (by kernel_rfl) ?f5r ?r5r (fun _ _ _ h => h) (Or.inl ⟨?w5r, ?y5r⟩) (by assumption) ?t5r
  case h5r => simp only [List.getElem?_toArray]; rfl
  case f5r => kernel_rfl
  case r5r => kernel_rfl
  case w5r => rfl
  case y5r => (intro u hu; (go_simp) <;> with_reducible rfl)
  try simp only [Act.put, List.setIfInBounds_toArray, List.set_cons_zero, List.set_cons_succ]
  refine wpAnyH_take (i := 6) (oi := ?o6r) (v := ?v6r) ?h6r (by kernel_rfl) ?f6r ?r6r (fun _ _ _ h => h) (Or.inl ⟨?w6r, ?y6r⟩) (by assumption) ?t6r
  case h6r => simp only [List.getElem?_toArray]; rfl
  case f6r => kernel_rfl
  case r6r => kernel_rfl
  case w6r => rfl
  case y6r => (intro u hu; (go_simp) <;> with_reducible rfl)
  try simp only [Act.put, List.setIfInBounds_toArray, List.set_cons_zero, List.set_cons_succ]
  refine wpAnyH_take (i := 7) (oi := ?o7r) (v := ?v7r) ?h7r (by kernel_rfl) ?f7r ?r7r (fun _ _ _ h => h) (Or.inl ⟨?w7r, ?y7r⟩) (by assumption) ?t7r
  case h7r => simp only [List.getElem?_toArray]; rfl
  case f7r => kernel_rfl
  case r7r => kernel_rfl
  case w7r => rfl
  case y7r => (intro u hu; (go_simp) <;> with_reducible rfl)
  try simp only [Act.put, List.setIfInBounds_toArray, List.set_cons_zero, List.set_cons_succ]
  refine wpAnyH_take (i := 8) (oi := ?o8r) (v := ?v8r) ?h8r (by kernel_rfl) ?f8r ?r8r (fun _ _ _ h => h) (Or.inl ⟨?w8r, ?y8r⟩) (by assumption) ?t8r
  case h8r => simp only [List.getElem?_toArray]; rfl
  case f8r => kernel_rfl
  case r8r => kernel_rfl
  case w8r => rfl
  case y8r => (intro u hu; (go_simp) <;> with_reducible rfl)
  try simp only [Act.put, List.setIfInBounds_toArray, List.set_cons_zero, List.set_cons_succ]
  refine wpAnyH_take (i := 9) (oi := ?o9r) (v := ?v9r) ?h9r (by kernel_rfl) ?f9r ?r9r (fun _ _ _ h => h) (Or.inl ⟨?w9r, ?y9r⟩) (by assumption) ?t9r
  case h9r => simp only [List.getElem?_toArray]; rfl
  case f9r => kernel_rfl
  case r9r => kernel_rfl
  case w9r => rfl
  case y9r => (intro u hu; (go_simp) <;> with_reducible rfl)
  try simp only [Act.put, List.setIfInBounds_toArray, List.set_cons_zero, List.set_cons_succ]
  refine wpAnyH_take (i := 10) (oi := ?o10r) (v := ?v10r) ?h10r (by kernel_rfl) ?f10r ?r10r (fun _ _ _ h => h) (Or.inl ⟨?w10r, ?y10r⟩) (by assumption) ?t10r
  case h10r => simp only [List.getElem?_toArray]; rfl
  case f10r => kernel_rfl
  case r10r => kernel_rfl
  case w10r => rfl
  case y10r => (intro u hu; (go_simp) <;> with_reducible rfl)
  try simp only [Act.put, List.setIfInBounds_toArray, List.set_cons_zero, List.set_cons_succ]
  refine wpAnyH_take (i := 11) (oi := ?o11r) (v := .agg (List.map (Value.int .u8) A1).toArray) ?h11r (by kernel_rfl) ?f11r ?r11r (fun _ _ _ h => h) ?y11r (by assumption) ?t11r
  case h11r => simp only [List.getElem?_toArray]; rfl
  case f11r => kernel_rfl
  case r11r => kernel_rfl
  case y11r => exact yieldsIf_load_mid (by rfl) 25 (.tmp 21) rfl g1 0 rfl (List.map (Value.int .u8) A1) _ (fun u hu => range_later hu RA1.out) Tryd.underlying25 rfl hiA1
  try simp only [Act.put, List.setIfInBounds_toArray, List.set_cons_zero, List.set_cons_succ]
  refine wpAnyH_take (i := 12) (oi := ?o12r) (v := ?v12r) ?h12r (by kernel_rfl) ?f12r ?r12r (fun _ _ _ h => h) (Or.inl ⟨?w12r, ?y12r⟩) (by assumption) ?t12r
  case h12r => simp only [List.getElem?_toArray]; rfl
  case f12r => kernel_rfl
  case r12r => kernel_rfl
  case w12r => rfl
  case y12r => (intro u hu; (go_simp) <;> with_reducible rfl)
  try simp only [Act.put, List.setIfInBounds_toArray, List.set_cons_zero, List.set_cons_succ]
  refine wpAnyH_take (i := 13) (oi := ?o13r) (v := ?v13r) ?h13r (by kernel_rfl) ?f13r ?r13r (fun _ _ _ h => h) (Or.inl ⟨?w13r, ?y13r⟩) (by assumption) ?t13r
  case h13r => simp only [List.getElem?_toArray]; rfl
  case f13r => kernel_rfl
  case r13r => kernel_rfl
  case w13r => rfl
  case y13r => (intro u hu; (go_simp) <;> with_reducible rfl)
  try simp only [Act.put, List.setIfInBounds_toArray, List.set_cons_zero, List.set_cons_succ]
  refine wpAnyH_take (i := 14) (oi := ?o14r) (v := .agg (List.map (Value.int .u8) A2).toArray) ?h14r (by kernel_rfl) ?f14r ?r14r (fun _ _ _ h => h) ?y14r (by assumption) ?t14r
  case h14r => simp only [List.getElem?_toArray]; rfl
  case f14r => kernel_rfl
  case r14r => kernel_rfl
  case y14r => exact yieldsIf_load_mid (by rfl) 25 (.tmp 24) rfl g2 0 rfl (List.map (Value.int .u8) A2) _ (fun u hu => range_later hu RA2.out) Tryd.underlying25 rfl hiA2
  try simp only [Act.put, List.setIfInBounds_toArray, List.set_cons_zero, List.set_cons_succ]
  have heq : ∀ u, Sem.run Tryd.prog (binOp .eql 25 (.agg (List.map (Value.int .u8) A1).toArray) (.agg (List.map (Value.int .u8) A2).toArray)) u = .ok (.bool true) u := fun u => eql32 A1 A2 HnA1.out (by rw [HA1.out, HA2.out, HK1.out, HK2.out]) u
  refine wpAnyH_take (i := 15) (oi := ?o15r) (v := ?v15r) ?h15r (by kernel_rfl) ?f15r ?r15r (fun _ _ _ h => h) (Or.inl ⟨?w15r, ?y15r⟩) (by assumption) ?t15r
  case h15r => simp only [List.getElem?_toArray]; rfl
  case f15r => kernel_rfl
  case r15r => kernel_rfl
  case w15r => rfl
  case y15r => (intro u hu; (go_simp) <;> with_reducible rfl)
  try simp only [Act.put, List.setIfInBounds_toArray, List.set_cons_zero, List.set_cons_succ]
  clear heq
  refine wpAnyH_take (i := 16) (oi := ?o16r) (v := ?v16r) ?h16r (by kernel_rfl) ?f16r ?r16r (fun _ _ _ h => h) (Or.inl ⟨?w16r, ?y16r⟩) (by assumption) ?t16r
  case h16r => simp only [List.getElem?_toArray]; rfl
  case f16r => kernel_rfl
  case r16r => kernel_rfl
  case w16r => rfl
  case y16r => (intro u hu; (go_simp) <;> with_reducible rfl)
  try simp only [Act.put, List.setIfInBounds_toArray, List.set_cons_zero, List.set_cons_succ]
  refine wpAnyH_take (i := 17) (oi := ?o17r) (v := ?v17r) ?h17r (by kernel_rfl) ?f17r ?r17r (fun _ _ _ h => h) (Or.inl ⟨?w17r, ?y17r⟩) (by assumption) ?t17r
  case h17r => simp only [List.getElem?_toArray]; rfl
  case f17r => kernel_rfl
  case r17r => kernel_rfl
  case w17r => rfl
  case y17r => (intro u hu; (go_simp) <;> with_reducible rfl)
  try simp only [Act.put, List.setIfInBounds_toArray, List.set_cons_zero, List.set_cons_succ]
  refine wpAnyH_take (i := 18) (oi := ?o18r) (v := ?v18r) ?h18r (by kernel_rfl) ?f18r ?r18r (fun _ _ _ h => h) (Or.inl ⟨?w18r, ?y18r⟩) (by assumption) ?t18r
  case h18r => simp only [List.getElem?_toArray]; rfl
  case f18r => kernel_rfl
  case r18r => kernel_rfl
  case w18r => rfl
  case y18r => (intro u hu; (go_simp) <;> with_reducible rfl)
  try simp only [Act.put, List.setIfInBounds_toArray, List.set_cons_zero, List.set_cons_succ]
  refine wpAnyH_take (i := 19) (oi := ?o19r) (v := ?v19r) ?h19r (by kernel_rfl) ?f19r ?r19r (fun _ _ _ h => h) (Or.inl ⟨?w19r, ?y19r⟩) (by assumption) ?t19r
  case h19r => simp only [List.getElem?_toArray]; rfl
  case f19r => kernel_rfl
  case r19r => kernel_rfl
  case w19r => rfl
  case y19r => (intro u hu; (go_simp) <;> with_reducible rfl)
  try simp only [Act.put, List.setIfInBounds_toArray, List.set_cons_zero, List.set_cons_succ]
  refine wpAnyH_take (i := 20) (oi := ?o20r) (v := .agg (List.map (Value.int .u8) B1).toArray) ?h20r (by kernel_rfl) ?f20r ?r20r (fun _ _ _ h => h) ?y20r (by assumption) ?t20r
  case h20r => simp only [List.getElem?_toArray]; rfl
  case f20r => kernel_rfl
  case r20r => kernel_rfl
  case y20r => exact yieldsIf_load_mid (by rfl) 25 (.tmp 30) rfl g1 32 rfl (List.map (Value.int .u8) B1) _ (fun u hu => range_later hu RB1.out) Tryd.underlying25 rfl hiB1
  try simp only [Act.put, List.setIfInBounds_toArray, List.set_cons_zero, List.set_cons_succ]
  refine wpAnyH_take (i := 21) (oi := ?o21r) (v := ?v21r) ?h21r (by kernel_rfl) ?f21r ?r21r (fun _ _ _ h => h) (Or.inl ⟨?w21r, ?y21r⟩) (by assumption) ?t21r
  case h21r => simp only [List.getElem?_toArray]; rfl
  case f21r => kernel_rfl
  case r21r => kernel_rfl
  case w21r => rfl
  case y21r => (intro u hu; (go_simp) <;> with_reducible rfl)
  try simp only [Act.put, List.setIfInBounds_toArray, List.set_cons_zero, List.set_cons_succ]
  refine wpAnyH_take (i := 22) (oi := ?o22r) (v := ?v22r) ?h22r (by kernel_rfl) ?f22r ?r22r (fun _ _ _ h => h) (Or.inl ⟨?w22r, ?y22r⟩) (by assumption) ?t22r
  case h22r => simp only [List.getElem?_toArray]; rfl
  case f22r => kernel_rfl
  case r22r => kernel_rfl
  case w22r => rfl
  case y22r => (intro u hu; (go_simp) <;> with_reducible rfl)
  try simp only [Act.put, List.setIfInBounds_toArray, List.set_cons_zero, List.set_cons_succ]
  refine wpAnyH_take (i := 23) (oi := ?o23r) (v := .agg (List.map (Value.int .u8) B2).toArray) ?h23r (by kernel_rfl) ?f23r ?r23r (fun _ _ _ h => h) ?y23r (by assumption) ?t23r
  case h23r => simp only [List.getElem?_toArray]; rfl
  case f23r => kernel_rfl
  case r23r => kernel_rfl
  case y23r => exact yieldsIf_load_mid (by rfl) 25 (.tmp 33) rfl g2 32 rfl (List.map (Value.int .u8) B2) _ (fun u hu => range_later hu RB2.out) Tryd.underlying25 rfl hiB2
  try simp only [Act.put, List.setIfInBounds_toArray, List.set_cons_zero, List.set_cons_succ]
  have heq : ∀ u, Sem.run Tryd.prog (binOp .eql 25 (.agg (List.map (Value.int .u8) B1).toArray) (.agg (List.map (Value.int .u8) B2).toArray)) u = .ok (.bool true) u := fun u => eql32 B1 B2 HnB1.out (by rw [HB1.out, HB2.out, HK1.out, HK2.out]) u
  refine wpAnyH_take (i := 24) (oi := ?o24r) (v := ?v24r) ?h24r (by kernel_rfl) ?f24r ?r24r (fun _ _ _ h => h) (Or.inl ⟨?w24r, ?y24r⟩) (by assumption) ?t24r
  case h24r => simp only [List.getElem?_toArray]; rfl
  case f24r => kernel_rfl
  case r24r => kernel_rfl
  case w24r => rfl
  case y24r => (intro u hu; (go_simp) <;> with_reducible rfl)
  try simp only [Act.put, List.setIfInBounds_toArray, List.set_cons_zero, List.set_cons_succ]
  clear heq
  refine wpAnyH_take (i := 25) (oi := ?o25r) (v := ?v25r) ?h25r (by kernel_rfl) ?f25r ?r25r (fun _ _ _ h => h) (Or.inl ⟨?w25r, ?y25r⟩) (by assumption) ?t25r
  case h25r => simp only [List.getElem?_toArray]; rfl
  case f25r => kernel_rfl
  case r25r => kernel_rfl
  case w25r => rfl
  case y25r => (intro u hu; (go_simp) <;> with_reducible rfl)
  try simp only [Act.put, List.setIfInBounds_toArray, List.set_cons_zero, List.set_cons_succ]
  refine wpAnyH_take (i := 26) (oi := ?o26r) (v := ?v26r) ?h26r (by kernel_rfl) ?f26r ?r26r (fun _ _ _ h => h) (Or.inl ⟨?w26r, ?y26r⟩) (by assumption) ?t26r
  case h26r => simp only [List.getElem?_toArray]; rfl
  case f26r => kernel_rfl
  case r26r => kernel_rfl
  case w26r => rfl
  case y26r => (intro u hu; (go_simp) <;> with_reducible rfl)
  try simp only [Act.put, List.setIfInBounds_toArray, List.set_cons_zero, List.set_cons_succ]
  refine wpAnyH_take (i := 27) (oi := ?o27r) (v := ?v27r) ?h27r (by kernel_rfl) ?f27r ?r27r (fun _ _ _ h => h) (Or.inl ⟨?w27r, ?y27r⟩) (by assumption) ?t27r
  case h27r => simp only [List.getElem?_toArray]; rfl
  case f27r => kernel_rfl
  case r27r => kernel_rfl
  case w27r => rfl
  case y27r => (intro u hu; (go_simp) <;> with_reducible rfl)
  try simp only [Act.put, List.setIfInBounds_toArray, List.set_cons_zero, List.set_cons_succ]
  refine wpAnyH_take (i := 28) (oi := ?o28r) (v := ?v28r) ?h28r (by kernel_rfl) ?f28r ?r28r (fun _ _ _ h => h) (Or.inl ⟨?w28r, ?y28r⟩) (by assumption) ?t28r
  case h28r => simp only [List.getElem?_toArray]; rfl
  case f28r => kernel_rfl
  case r28r => kernel_rfl
  case w28r => rfl
  case y28r => (intro u hu; (go_simp) <;> with_reducible rfl)
  try simp only [Act.put, List.setIfInBounds_toArray, List.set_cons_zero, List.set_cons_succ]
  refine wpAnyH_take (i := 29) (oi := ?o29r) (v := .agg (List.map (Value.int .u8) A1).toArray) ?h29r (by kernel_rfl) ?f29r ?r29r (fun _ _ _ h => h) ?y29r (by assumption) ?t29r
  case h29r => simp only [List.getElem?_toArray]; rfl
  case f29r => kernel_rfl
  case r29r => kernel_rfl
  case y29r => exact yieldsIf_load_mid (by rfl) 25 (.tmp 39) rfl g1 0 rfl (List.map (Value.int .u8) A1) _ (fun u hu => range_later hu RA1.out) Tryd.underlying25 rfl hiA1
  try simp only [Act.put, List.setIfInBounds_toArray, List.set_cons_zero, List.set_cons_succ]
  obtain ⟨y0, hy0⟩ : ∃ V, V = V2.drew := ⟨_, rfl⟩
  rw [← hy0] at hH ⊢
  clear hy0
  revert hH
  apply cut2 (F := fun u bx N => Hid (Ext V2 u) ∧ Hid (Rd u (some ⟨bx, 0, none⟩) 1 1 x8) ∧ Hid (N = sec 1))
  case h =>
    intro hrest hH
    refine wpAnyH_ready (rs := [30, 31]) (by kernel_rfl) (by simp) ?_
    refine AllReadyH.cons (o := ?ok1) ?hk1 (fun K hK => ?sk1) (AllReadyH.cons (o := ?ok2) ?hk2 (fun K hK => ?sk2) AllReadyH.nil)
    case hk1 => simp only [List.getElem?_toArray]; rfl
    case hk2 => simp only [List.getElem?_toArray]; rfl
    case sk1 =>
      go_simp
      refine (secret_l 1 _).mono ?_
      rintro e V4 ⟨N, rfl, HN, HNn, hb⟩
      refine hK.out _ _ (hH.trans hb) (fun hH' => ?_)
      clear hK K hH
      have hH := hH'
      clear hH'
      try simp only [List.setIfInBounds_toArray, List.set]
      clear hb
      refine wpAnyH_ready (rs := [31]) (by kernel_rfl) (by simp) ?_
      refine AllReadyH.cons (o := ?ok5) ?hk5 (fun K hK => ?sk5) AllReadyH.nil
      case hk5 => simp only [List.getElem?_toArray]; rfl
      case sk5 =>
        go_simp
        have hb := bel1 V4 (.cells #[.int .u8 120] 5)
        have gx : V2.heap.size ≤ V4.heap.size := hH.size
        have Lx : Hid (Lt (V4.alloc (.cells #[.int .u8 120] 5)) V4.heap.size x8) := lt_new V4 x8
        refine hK.out _ _ (hH.trans hb) (fun hH' => ?_)
        clear hK K hH
        have hH := hH'
        clear hH'
        try simp only [List.setIfInBounds_toArray, List.set]
        obtain ⟨x7, hnew⟩ : ∃ v, v = (V4.alloc (.cells #[.int .u8 120] 5)) := ⟨_, rfl⟩
        obtain ⟨bx, hbn⟩ : ∃ v, v = V4.heap.size := ⟨_, rfl⟩
        rw [← hnew] at Lx hH ⊢
        rw [← hbn] at Lx gx ⊢
        clear hb hnew hbn
        refine wpAnyH_ready (rs := [32]) (by kernel_rfl) (by simp) ?_
        refine AllReadyH.cons (o := ?ok8) ?hk8 (fun K hK => ?sk8) AllReadyH.nil
        case hk8 => simp only [List.getElem?_toArray]; rfl
        case sk8 =>
          have hcv := conv_mark x7 bx x8 1 1 Lx.out
          rw [show x8.length = 1 from rfl] at hcv
          go_simp
          clear hcv
          have Rx : Hid (Rd (x7.freeze ⟨bx, 1, none⟩ 1) (some ⟨bx, 0, none⟩) 1 1 x8) := (Lx.out.rd (byt5 _ (by decide)) 1 (by decide)).frz _ _
          refine hK.out _ _ (ext_frz hH bx 1 gx) (fun hH' => ?_)
          clear hK K hH
          have hH := hH'
          clear hH'
          try simp only [List.setIfInBounds_toArray, List.set]
          clear Lx
          obtain ⟨x10, hnew⟩ : ∃ v, v = (x7.freeze ⟨bx, 1, none⟩ 1) := ⟨_, rfl⟩
          rw [← hnew] at hH Rx ⊢
          clear hnew
          exact hrest x10 bx N ⟨hH, Rx, HN⟩
    case sk2 =>
      go_simp
      have hb := bel1 y0 (.cells #[.int .u8 120] 5)
      have gx : V2.heap.size ≤ y0.heap.size := hH.size
      have Lx : Hid (Lt (y0.alloc (.cells #[.int .u8 120] 5)) y0.heap.size x8) := lt_new y0 x8
      refine hK.out _ _ (hH.trans hb) (fun hH' => ?_)
      clear hK K hH
      have hH := hH'
      clear hH'
      try simp only [List.setIfInBounds_toArray, List.set]
      obtain ⟨x12, hnew⟩ : ∃ v, v = (y0.alloc (.cells #[.int .u8 120] 5)) := ⟨_, rfl⟩
      obtain ⟨bx, hbn⟩ : ∃ v, v = y0.heap.size := ⟨_, rfl⟩
      rw [← hnew] at Lx hH ⊢
      rw [← hbn] at Lx gx ⊢
      clear hb hnew hbn
      refine wpAnyH_ready (rs := [30, 32]) (by kernel_rfl) (by simp) ?_
      refine AllReadyH.cons (o := ?ok13) ?hk13 (fun K hK => ?sk13) (AllReadyH.cons (o := ?ok14) ?hk14 (fun K hK => ?sk14) AllReadyH.nil)
      case hk13 => simp only [List.getElem?_toArray]; rfl
      case hk14 => simp only [List.getElem?_toArray]; rfl
      case sk13 =>
        go_simp
        refine (secret_l 1 _).mono ?_
        rintro e V16 ⟨N, rfl, HN, HNn, hb⟩
        refine hK.out _ _ (hH.trans hb) (fun hH' => ?_)
        clear hK K hH
        have hH := hH'
        clear hH'
        try simp only [List.setIfInBounds_toArray, List.set]
        replace Lx : Hid (Lt V16 bx x8) := Lx.out.later hb
        clear hb
        refine wpAnyH_ready (rs := [32]) (by kernel_rfl) (by simp) ?_
        refine AllReadyH.cons (o := ?ok17) ?hk17 (fun K hK => ?sk17) AllReadyH.nil
        case hk17 => simp only [List.getElem?_toArray]; rfl
        case sk17 =>
          have hcv := conv_mark V16 bx x8 1 1 Lx.out
          rw [show x8.length = 1 from rfl] at hcv
          go_simp
          clear hcv
          have Rx : Hid (Rd (V16.freeze ⟨bx, 1, none⟩ 1) (some ⟨bx, 0, none⟩) 1 1 x8) := (Lx.out.rd (byt5 _ (by decide)) 1 (by decide)).frz _ _
          refine hK.out _ _ (ext_frz hH bx 1 gx) (fun hH' => ?_)
          clear hK K hH
          have hH := hH'
          clear hH'
          try simp only [List.setIfInBounds_toArray, List.set]
          clear Lx
          obtain ⟨x19, hnew⟩ : ∃ v, v = (V16.freeze ⟨bx, 1, none⟩ 1) := ⟨_, rfl⟩
          rw [← hnew] at hH Rx ⊢
          clear hnew
          exact hrest x19 bx N ⟨hH, Rx, HN⟩
      case sk14 =>
        have hcv := conv_mark x12 bx x8 1 1 Lx.out
        rw [show x8.length = 1 from rfl] at hcv
        go_simp
        clear hcv
        have Rx : Hid (Rd (x12.freeze ⟨bx, 1, none⟩ 1) (some ⟨bx, 0, none⟩) 1 1 x8) := (Lx.out.rd (byt5 _ (by decide)) 1 (by decide)).frz _ _
        refine hK.out _ _ (ext_frz hH bx 1 gx) (fun hH' => ?_)
        clear hK K hH
        have hH := hH'
        clear hH'
        try simp only [List.setIfInBounds_toArray, List.set]
        clear Lx
        obtain ⟨x21, hnew⟩ : ∃ v, v = (x12.freeze ⟨bx, 1, none⟩ 1) := ⟨_, rfl⟩
        rw [← hnew] at hH Rx ⊢
        clear hnew
        refine wpAnyH_ready (rs := [30]) (by kernel_rfl) (by simp) ?_
        refine AllReadyH.cons (o := ?ok22) ?hk22 (fun K hK => ?sk22) AllReadyH.nil
        case hk22 => simp only [List.getElem?_toArray]; rfl
        case sk22 =>
          go_simp
          refine (secret_l 1 _).mono ?_
          rintro e V24 ⟨N, rfl, HN, HNn, hb⟩
          refine hK.out _ _ (hH.trans hb) (fun hH' => ?_)
          clear hK K hH
          have hH := hH'
          clear hH'
          try simp only [List.setIfInBounds_toArray, List.set]
          replace Rx : Hid (Rd V24 (some ⟨bx, 0, none⟩) 1 1 x8) := Rx.out.below hb
          clear hb
          exact hrest V24 bx N ⟨hH, Rx, HN⟩
  case hr =>
  rintro u bx N ⟨hE, Rx, HN⟩
  have hH := hE.out
  clear hE
  have hNn : Bn 32 N := by rw [HN.out]; exact sec_bn 1
  refine wpAnyH_ready (rs := [33]) (by kernel_rfl) (by simp) ?_
  refine AllReadyH.cons (o := ?o33q) ?h33q (fun K hK => ?_) AllReadyH.nil
  case h33q => simp only [List.getElem?_toArray]; rfl
  go_simp
  refine (rderive2_l N (some ⟨bx, 0, none⟩) 1 1 x8 hNn _ Rx.out (HQ.out.later hH) (by decide)).mono ?_
  rintro e V9 ⟨g9, c9, A9, rfl, HA9, R9, hb⟩
  refine hK.out _ _ (hH.trans hb) (fun hH' => ?_)
  clear hK K hH
  have hH := hH'
  clear hH'
  try simp only [List.setIfInBounds_toArray, List.set]
  have HH : Hid (Ext V2 V9) := hH
  refine wpAnyH_mono (S' := Ext V9) (fun u hu => Ext.trans hH hu) ?_
  clear hH hb
  have hH := Ext.refl V9
  have HnA9 : Bn 32 A9 := by rw [HA9.out]; exact ky8_bn _ 0
  obtain ⟨_, _, hiA9⟩ := bn32_cells HnA9
  refine wpAnyH_take (i := 34) (oi := ?o34q) (v := ?v34q) ?h34q (by kernel_rfl) ?f34q ?r34q (fun _ _ _ h => h) (Or.inl ⟨?w34q, ?y34q⟩) (by assumption) ?t34q
  case h34q => simp only [List.getElem?_toArray]; rfl
  case f34q => kernel_rfl
  case r34q => kernel_rfl
  case w34q => rfl
  case y34q => (intro u hu; (go_simp) <;> with_reducible rfl)
  try simp only [Act.put, List.setIfInBounds_toArray, List.set_cons_zero, List.set_cons_succ]
  refine wpAnyH_take (i := 35) (oi := ?o35q) (v := .agg (List.map (Value.int .u8) A9).toArray) ?h35q (by kernel_rfl) ?f35q ?r35q (fun _ _ _ h => h) ?y35q (by assumption) ?t35q
  case h35q => simp only [List.getElem?_toArray]; rfl
  case f35q => kernel_rfl
  case r35q => kernel_rfl
  case y35q => exact yieldsIf_load_mid (by rfl) 25 (.tmp 45) rfl g9 0 rfl (List.map (Value.int .u8) A9) _ (fun u hu => range_later hu R9.out) Tryd.underlying25 rfl hiA9
  try simp only [Act.put, List.setIfInBounds_toArray, List.set_cons_zero, List.set_cons_succ]
  have heq : ∀ u, Sem.run Tryd.prog (binOp .eql 25 (.agg (List.map (Value.int .u8) A1).toArray) (.agg (List.map (Value.int .u8) A9).toArray)) u = .ok (.bool true) u := fun u => eql32 A1 A9 HnA1.out (by rw [HA1.out, HA9.out, HK1.out, HN.out]; rfl) u
  refine wpAnyH_take (i := 36) (oi := ?o36q) (v := ?v36q) ?h36q (by kernel_rfl) ?f36q ?r36q (fun _ _ _ h => h) (Or.inl ⟨?w36q, ?y36q⟩) (by assumption) ?t36q
  case h36q => simp only [List.getElem?_toArray]; rfl
  case f36q => kernel_rfl
  case r36q => kernel_rfl
  case w36q => rfl
  case y36q => (intro u hu; (go_simp) <;> with_reducible rfl)
  try simp only [Act.put, List.setIfInBounds_toArray, List.set_cons_zero, List.set_cons_succ]
  clear heq
  refine wpAnyH_take (i := 37) (oi := ?o37q) (v := ?v37q) ?h37q (by kernel_rfl) ?f37q ?r37q (fun _ _ _ h => h) (Or.inl ⟨?w37q, ?y37q⟩) (by assumption) ?t37q
  case h37q => simp only [List.getElem?_toArray]; rfl
  case f37q => kernel_rfl
  case r37q => kernel_rfl
  case w37q => rfl
  case y37q => (intro u hu; (go_simp) <;> with_reducible rfl)
  try simp only [Act.put, List.setIfInBounds_toArray, List.set_cons_zero, List.set_cons_succ]
  refine wpAnyH_take (i := 38) (oi := ?o38q) (v := ?v38q) ?h38q (by kernel_rfl) ?f38q ?r38q (fun _ _ _ h => h) (Or.inl ⟨?w38q, ?y38q⟩) (by assumption) ?t38q
  case h38q => simp only [List.getElem?_toArray]; rfl
  case f38q => kernel_rfl
  case r38q => kernel_rfl
  case w38q => rfl
  case y38q => (intro u hu; (go_simp) <;> with_reducible rfl)
  try simp only [Act.put, List.setIfInBounds_toArray, List.set_cons_zero, List.set_cons_succ]
  refine wpAnyH_done (by kernel_rfl) ?_ _
  refine NoPanic.normal ?_
  replace HB : Hid (Below w.heap.size w V9) := HB.out.trans (Below.mono HH.out HB.out.size)
  clear HH
  go_wp2
  go_ret
  exact ⟨rfl, HB.out⟩
end Go.Proofs.YtiicepinnfgknaaDoor
