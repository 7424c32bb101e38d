/-
  What a State's Seal and Open do. No statement of the seat is proved here.
-/
import Derived.Test.YtmibjgkakolhiaaDoorPk33
import Derived.Test.YtmibjgkakolhiaaDoorPk38
namespace Go.Proofs.YtmibjgkakolhiaaDoor
open Go.RowKit

set_option maxRecDepth 8000 in
theorem sx9_no (k : List Int) (h : Bool) (n : Int) (ad t : List Int) (he : se9 h n ≠ 0) : sx9 k h n ad t = [] := by
  unfold se9 at he
  unfold sx9
  cases h with
  | false => exact absurd rfl he
  | true =>
    rw [if_pos rfl] at he ⊢
    by_cases hn : n = 18446744073709551615
    · rw [if_pos hn]
    · rw [if_neg hn] at he
      exact absurd rfl he
set_option maxRecDepth 8000 in
theorem ox9_no (k : List Int) (h : Bool) (n : Int) (ad t : List Int) (he : oe9 k h n ad t ≠ 0) : ox9 k h n ad t = [] := by
  unfold oe9 at he
  unfold ox9
  cases h with
  | false => exact absurd rfl he
  | true =>
    rw [if_pos rfl] at he ⊢
    by_cases hn : n = 18446744073709551615
    · rw [if_pos hn]
    · rw [if_neg hn] at he ⊢
      exact op6_not _ _ _ _ he
set_option maxRecDepth 8000 in
set_option maxHeartbeats 4000000 in
theorem seal10_c (b : Nat) (k : List Int) (h : Bool) (n : Int) (H C : List Int) (at' : Option Addr) (lt ct : Nat) (text : List Int) (w : World) (hs : My w b k h n H C) (hrt : Rd w at' lt ct text) (hg : Gb w) (hb0 : 3 < b) (hb1 : 4 < b) (hm : lt ≤ 140737488351232) :
    Calls Tryd.prog 21 #[.pointer (some ⟨b, 0, none⟩), .slice at' lt ct] w fun e w' => ∃ a1 m1 c1 X E n', e = .returned (.tuple #[.slice a1 m1 c1, .int .i64 E]) ∧ Hid (X = sx9 k h n H text) ∧ Hid (E = se9 h n) ∧ Hid (n' = sn9 h n) ∧ Hid (Rd w' a1 m1 c1 X) ∧ Hid (My w' b k h n' (h10 E H X) C) ∧ ExtB b w w' ∧ Fr w.heap.size a1 m1 ∧ m1 ≤ lt + 16 := by
  have HS : Hid (My w b k h n H C) := hs
  have HG : Hid (Gb w) := hg
  have HRT : Hid (Rd w at' lt ct text) := hrt
  have HLT : Hid (b < w.heap.size) := hs.lt
  clear hs hrt hg
  go_enter Tryd.func21, Tryd.ntmps21
  go_upto_region 1 with fail
  refine wp_region_noPanic ?_
  refine wp_region_held_drew (S := ExtB b w) (by kernel_rfl) (ExtB.refl b w).drew (fun hH => ?_)
  change wpAnyH _ _ _ _ _ _ #[false, false, false, false, false, false, false, false, false, false, false, false, false, false] _ _
  refine wpAnyH_take (i := 0) (oi := ?o0f) (v := ?v0f) ?h0f (by kernel_rfl) ?f0f ?r0f (fun _ _ _ h => h) (Or.inl ⟨?w0f, ?y0f⟩) (by assumption) ?t0f
  case h0f => simp only [List.getElem?_toArray]; rfl
  case f0f => kernel_rfl
  case r0f => kernel_rfl
  case w0f => rfl
  case y0f => (intro u hu; (go_simp) <;> with_reducible rfl)
  try simp only [Act.put, List.setIfInBounds_toArray, List.set_cons_zero, List.set_cons_succ]
  refine wpAnyH_take (i := 1) (oi := ?o1f) (v := ?v1f) ?h1f (by kernel_rfl) ?f1f ?r1f (fun _ _ _ h => h) (Or.inl ⟨?w1f, ?y1f⟩) (by assumption) ?t1f
  case h1f => simp only [List.getElem?_toArray]; rfl
  case f1f => kernel_rfl
  case r1f => kernel_rfl
  case w1f => rfl
  case y1f => (intro u hu; (go_simp) <;> with_reducible rfl)
  try simp only [Act.put, List.setIfInBounds_toArray, List.set_cons_zero, List.set_cons_succ]
  refine wpAnyH_take (i := 2) (oi := ?o2f) (v := ?v2f) ?h2f (by kernel_rfl) ?f2f ?r2f (fun _ _ _ h => h) (Or.inl ⟨?w2f, ?y2f⟩) (by assumption) ?t2f
  case h2f => simp only [List.getElem?_toArray]; rfl
  case f2f => kernel_rfl
  case r2f => kernel_rfl
  case w2f => rfl
  case y2f => (intro u hu; (go_simp) <;> with_reducible rfl)
  try simp only [Act.put, List.setIfInBounds_toArray, List.set_cons_zero, List.set_cons_succ]
  refine wpAnyH_take (i := 3) (oi := ?o3f) (v := ?v3f) ?h3f (by kernel_rfl) ?f3f ?r3f (fun _ _ _ h => h) (Or.inl ⟨?w3f, ?y3f⟩) (by assumption) ?t3f
  case h3f => simp only [List.getElem?_toArray]; rfl
  case f3f => kernel_rfl
  case r3f => kernel_rfl
  case w3f => rfl
  case y3f => (intro u hu; (go_simp) <;> with_reducible rfl)
  try simp only [Act.put, List.setIfInBounds_toArray, List.set_cons_zero, List.set_cons_succ]
  refine wpAnyH_take (i := 4) (oi := ?o4f) (v := ?v4f) ?h4f (by kernel_rfl) ?f4f ?r4f (fun _ _ _ h => h) (Or.inl ⟨?w4f, ?y4f⟩) (by assumption) ?t4f
  case h4f => simp only [List.getElem?_toArray]; rfl
  case f4f => kernel_rfl
  case r4f => kernel_rfl
  case w4f => rfl
  case y4f => (intro u hu; (go_simp) <;> with_reducible rfl)
  try simp only [Act.put, List.setIfInBounds_toArray, List.set_cons_zero, List.set_cons_succ]
  refine wpAnyH_take (i := 5) (oi := ?o5f) (v := ?v5f) ?h5f (by kernel_rfl) ?f5f ?r5f (fun _ _ _ h => h) (Or.inl ⟨?w5f, ?y5f⟩) (by assumption) ?t5f
  case h5f => simp only [List.getElem?_toArray]; rfl
  case f5f => kernel_rfl
  case r5f => kernel_rfl
  case w5f => rfl
  case y5f => (intro u hu; (go_simp) <;> with_reducible rfl)
  try simp only [Act.put, List.setIfInBounds_toArray, List.set_cons_zero, List.set_cons_succ]
  refine wpAnyH_take (i := 6) (oi := ?o6f) (v := ?v6f) ?h6f (by kernel_rfl) ?f6f ?r6f (fun _ _ _ h => h) (Or.inl ⟨?w6f, ?y6f⟩) (by assumption) ?t6f
  case h6f => simp only [List.getElem?_toArray]; rfl
  case f6f => kernel_rfl
  case r6f => kernel_rfl
  case w6f => rfl
  case y6f => (intro u hu; (go_simp) <;> with_reducible rfl)
  try simp only [Act.put, List.setIfInBounds_toArray, List.set_cons_zero, List.set_cons_succ]
  refine wpAnyH_take (i := 7) (oi := ?o7f) (v := ?v7f) ?h7f (by kernel_rfl) ?f7f ?r7f (fun _ _ _ h => h) (Or.inl ⟨?w7f, ?y7f⟩) (by assumption) ?t7f
  case h7f => simp only [List.getElem?_toArray]; rfl
  case f7f => kernel_rfl
  case r7f => kernel_rfl
  case w7f => rfl
  case y7f => (intro u hu; (go_simp) <;> with_reducible rfl)
  try simp only [Act.put, List.setIfInBounds_toArray, List.set_cons_zero, List.set_cons_succ]
  refine wpAnyH_ready (rs := [8]) (by kernel_rfl) (by simp) ?_
  refine AllReadyH.cons (o := ?o8f) ?h8f (fun K hK => ?_) AllReadyH.nil
  case h8f => simp only [List.getElem?_toArray]; rfl
  go_simp
  refine (seal9o_c b 0 k h n (some ⟨b, 34, none⟩) 32 32 H at' lt ct text _ HS.out.drew.sy HS.out.drew.rdH (HRT.out.below (Below.refl _ _).drew) (by decide) (by omega)).mono ?_
  rintro e V ⟨a1, m1, c1, X, E, n', rfl, hm1, HX, HE, HN, RX, HT, hx, hfr⟩
  refine hK.out _ _ ((ExtB.refl b w).drew.comp hx.ext) (fun hH' => ?_)
  clear hK K hH
  have hH := hH'
  clear hH'
  try simp only [List.setIfInBounds_toArray, List.set]
  refine wpAnyH_take (i := 9) (oi := ?o9f) (v := ?v9f) ?h9f (by kernel_rfl) ?f9f ?r9f (fun _ _ _ h => h) (Or.inl ⟨?w9f, ?y9f⟩) (by assumption) ?t9f
  case h9f => simp only [List.getElem?_toArray]; rfl
  case f9f => kernel_rfl
  case r9f => kernel_rfl
  case w9f => rfl
  case y9f => (intro u hu; (go_simp) <;> with_reducible rfl)
  try simp only [Act.put, List.setIfInBounds_toArray, List.set_cons_zero, List.set_cons_succ]
  refine wpAnyH_take (i := 10) (oi := ?o10f) (v := ?v10f) ?h10f (by kernel_rfl) ?f10f ?r10f (fun _ _ _ h => h) (Or.inl ⟨?w10f, ?y10f⟩) (by assumption) ?t10f
  case h10f => simp only [List.getElem?_toArray]; rfl
  case f10f => kernel_rfl
  case r10f => kernel_rfl
  case w10f => rfl
  case y10f => (intro u hu; (go_simp) <;> with_reducible rfl)
  try simp only [Act.put, List.setIfInBounds_toArray, List.set_cons_zero, List.set_cons_succ]
  refine wpAnyH_take (i := 11) (oi := ?o11f) (v := ?v11f) ?h11f (by kernel_rfl) ?f11f ?r11f (fun _ _ _ h => h) (Or.inl ⟨?w11f, ?y11f⟩) (by assumption) ?t11f
  case h11f => simp only [List.getElem?_toArray]; rfl
  case f11f => kernel_rfl
  case r11f => kernel_rfl
  case w11f => rfl
  case y11f => (intro u hu; (go_simp) <;> with_reducible rfl)
  try simp only [Act.put, List.setIfInBounds_toArray, List.set_cons_zero, List.set_cons_succ]
  refine wpAnyH_take (i := 12) (oi := ?o12f) (v := ?v12f) ?h12f (by kernel_rfl) ?f12f ?r12f (fun _ _ _ h => h) (Or.inl ⟨?w12f, ?y12f⟩) (by assumption) ?t12f
  case h12f => simp only [List.getElem?_toArray]; rfl
  case f12f => kernel_rfl
  case r12f => kernel_rfl
  case w12f => rfl
  case y12f => (intro u hu; (go_simp) <;> with_reducible rfl)
  try simp only [Act.put, List.setIfInBounds_toArray, List.set_cons_zero, List.set_cons_succ]
  refine wpAnyH_take (i := 13) (oi := ?o13f) (v := ?v13f) ?h13f (by kernel_rfl) ?f13f ?r13f (fun _ _ _ h => h) (Or.inl ⟨?w13f, ?y13f⟩) (by assumption) ?t13f
  case h13f => simp only [List.getElem?_toArray]; rfl
  case f13f => kernel_rfl
  case r13f => kernel_rfl
  case w13f => rfl
  case y13f => (intro u hu; (go_simp) <;> with_reducible rfl)
  try simp only [Act.put, List.setIfInBounds_toArray, List.set_cons_zero, List.set_cons_succ]
  refine wpAnyH_done (by kernel_rfl) ?_ _
  refine NoPanic.normal ?_
  have HFR : Hid (Fr w.heap.size a1 m1) := hfr.mono (Nat.le_refl _)
  replace RX : Hid (Rd V a1 m1 c1 X) := RX
  have HE' : Hid (ExtB b w V) := hH
  replace HS : Hid (My V b k h n' H C) := HS.out.drew.cip HT.out hx
  replace HG : Hid (Gb V) := HG.out.extb hH hb0 hb1
  clear HT hx hfr hH HRT
  by_cases h0 : E = 0
  · subst h0
    go_wp2_with fail
    refine (mixhash10_c b k h n' H C a1 m1 c1 X _ HS.out RX.out HG.out (by omega)).mono ?_
    rintro e V2 ⟨rfl, HS2, hx⟩
    replace RX : Hid (Rd V2 a1 m1 c1 X) := RX.out.nq hx (HFR.out.nq HLT.out)
    replace HE' : Hid (ExtB b w V2) := HE'.out.comp hx
    clear hx HS HG
    go_wp2
    go_ret2
    exact ⟨a1, m1, c1, X, 0, n', rfl, HX, HE, HN, RX, by unfold Hid h10; rw [if_pos rfl]; exact HS2.out, HE'.out, HFR.out, hm1⟩
  · have hX0 : X = [] := by rw [HX.out]; exact sx9_no _ _ _ _ _ (by rw [← HE.out]; exact h0)
    rw [hX0] at HX
    clear hX0 RX HG HFR
    go_wp2
    go_ret2
    exact ⟨none, 0, 0, [], E, n', rfl, HX, HE, HN, Rd.nil _ _ _ (fun _ => rfl), by unfold Hid h10; rw [if_neg h0]; exact HS.out, HE'.out, fr_nil, by omega⟩
set_option maxRecDepth 8000 in
set_option maxHeartbeats 4000000 in
theorem open10_c (b : Nat) (k : List Int) (h : Bool) (n : Int) (H C : List Int) (at' : Option Addr) (lt ct : Nat) (text : List Int) (w : World) (hs : My w b k h n H C) (hrt : Rd w at' lt ct text) (hg : Gb w) (hb0 : 3 < b) (hb1 : 4 < b) (hm : lt ≤ 140737488351248) :
    Calls Tryd.prog 22 #[.pointer (some ⟨b, 0, none⟩), .slice at' lt ct] w fun e w' => ∃ a1 m1 c1 X E n', e = .returned (.tuple #[.slice a1 m1 c1, .int .i64 E]) ∧ Hid (X = ox9 k h n H text) ∧ Hid (E = oe9 k h n H text) ∧ Hid (n' = on9 k h n H text) ∧ Hid (Rd w' a1 m1 c1 X) ∧ Hid (My w' b k h n' (h10 E H text) C) ∧ ExtB b w w' ∧ Fr w.heap.size a1 m1 := by
  have HS : Hid (My w b k h n H C) := hs
  have HG : Hid (Gb w) := hg
  have HRT : Hid (Rd w at' lt ct text) := hrt
  have HLT : Hid (b < w.heap.size) := hs.lt
  clear hs hrt hg
  go_enter Tryd.func22, Tryd.ntmps22
  go_upto_region 1 with fail
  refine wp_region_noPanic ?_
  refine wp_region_held_drew (S := ExtB b w) (by kernel_rfl) (ExtB.refl b w).drew (fun hH => ?_)
  change wpAnyH _ _ _ _ _ _ #[false, false, false, false, false, false, false, false, false, false, false, false, false, false] _ _
  refine wpAnyH_take (i := 0) (oi := ?o0f) (v := ?v0f) ?h0f (by kernel_rfl) ?f0f ?r0f (fun _ _ _ h => h) (Or.inl ⟨?w0f, ?y0f⟩) (by assumption) ?t0f
  case h0f => simp only [List.getElem?_toArray]; rfl
  case f0f => kernel_rfl
  case r0f => kernel_rfl
  case w0f => rfl
  case y0f => (intro u hu; (go_simp) <;> with_reducible rfl)
  try simp only [Act.put, List.setIfInBounds_toArray, List.set_cons_zero, List.set_cons_succ]
  refine wpAnyH_take (i := 1) (oi := ?o1f) (v := ?v1f) ?h1f (by kernel_rfl) ?f1f ?r1f (fun _ _ _ h => h) (Or.inl ⟨?w1f, ?y1f⟩) (by assumption) ?t1f
  case h1f => simp only [List.getElem?_toArray]; rfl
  case f1f => kernel_rfl
  case r1f => kernel_rfl
  case w1f => rfl
  case y1f => (intro u hu; (go_simp) <;> with_reducible rfl)
  try simp only [Act.put, List.setIfInBounds_toArray, List.set_cons_zero, List.set_cons_succ]
  refine wpAnyH_take (i := 2) (oi := ?o2f) (v := ?v2f) ?h2f (by kernel_rfl) ?f2f ?r2f (fun _ _ _ h => h) (Or.inl ⟨?w2f, ?y2f⟩) (by assumption) ?t2f
  case h2f => simp only [List.getElem?_toArray]; rfl
  case f2f => kernel_rfl
  case r2f => kernel_rfl
  case w2f => rfl
  case y2f => (intro u hu; (go_simp) <;> with_reducible rfl)
  try simp only [Act.put, List.setIfInBounds_toArray, List.set_cons_zero, List.set_cons_succ]
  refine wpAnyH_take (i := 3) (oi := ?o3f) (v := ?v3f) ?h3f (by kernel_rfl) ?f3f ?r3f (fun _ _ _ h => h) (Or.inl ⟨?w3f, ?y3f⟩) (by assumption) ?t3f
  case h3f => simp only [List.getElem?_toArray]; rfl
  case f3f => kernel_rfl
  case r3f => kernel_rfl
  case w3f => rfl
  case y3f => (intro u hu; (go_simp) <;> with_reducible rfl)
  try simp only [Act.put, List.setIfInBounds_toArray, List.set_cons_zero, List.set_cons_succ]
  refine wpAnyH_take (i := 4) (oi := ?o4f) (v := ?v4f) ?h4f (by kernel_rfl) ?f4f ?r4f (fun _ _ _ h => h) (Or.inl ⟨?w4f, ?y4f⟩) (by assumption) ?t4f
  case h4f => simp only [List.getElem?_toArray]; rfl
  case f4f => kernel_rfl
  case r4f => kernel_rfl
  case w4f => rfl
  case y4f => (intro u hu; (go_simp) <;> with_reducible rfl)
  try simp only [Act.put, List.setIfInBounds_toArray, List.set_cons_zero, List.set_cons_succ]
  refine wpAnyH_take (i := 5) (oi := ?o5f) (v := ?v5f) ?h5f (by kernel_rfl) ?f5f ?r5f (fun _ _ _ h => h) (Or.inl ⟨?w5f, ?y5f⟩) (by assumption) ?t5f
  case h5f => simp only [List.getElem?_toArray]; rfl
  case f5f => kernel_rfl
  case r5f => kernel_rfl
  case w5f => rfl
  case y5f => (intro u hu; (go_simp) <;> with_reducible rfl)
  try simp only [Act.put, List.setIfInBounds_toArray, List.set_cons_zero, List.set_cons_succ]
  refine wpAnyH_take (i := 6) (oi := ?o6f) (v := ?v6f) ?h6f (by kernel_rfl) ?f6f ?r6f (fun _ _ _ h => h) (Or.inl ⟨?w6f, ?y6f⟩) (by assumption) ?t6f
  case h6f => simp only [List.getElem?_toArray]; rfl
  case f6f => kernel_rfl
  case r6f => kernel_rfl
  case w6f => rfl
  case y6f => (intro u hu; (go_simp) <;> with_reducible rfl)
  try simp only [Act.put, List.setIfInBounds_toArray, List.set_cons_zero, List.set_cons_succ]
  refine wpAnyH_take (i := 7) (oi := ?o7f) (v := ?v7f) ?h7f (by kernel_rfl) ?f7f ?r7f (fun _ _ _ h => h) (Or.inl ⟨?w7f, ?y7f⟩) (by assumption) ?t7f
  case h7f => simp only [List.getElem?_toArray]; rfl
  case f7f => kernel_rfl
  case r7f => kernel_rfl
  case w7f => rfl
  case y7f => (intro u hu; (go_simp) <;> with_reducible rfl)
  try simp only [Act.put, List.setIfInBounds_toArray, List.set_cons_zero, List.set_cons_succ]
  refine wpAnyH_ready (rs := [8]) (by kernel_rfl) (by simp) ?_
  refine AllReadyH.cons (o := ?o8f) ?h8f (fun K hK => ?_) AllReadyH.nil
  case h8f => simp only [List.getElem?_toArray]; rfl
  go_simp
  refine (open9o_c b 0 k h n (some ⟨b, 34, none⟩) 32 32 H at' lt ct text _ HS.out.drew.sy HS.out.drew.rdH (HRT.out.below (Below.refl _ _).drew) (by decide) (by omega)).mono ?_
  rintro e V ⟨a1, m1, c1, X, E, n', rfl, HX, HE, HN, RX, HT, hx, hkp, hfr⟩
  refine hK.out _ _ ((ExtB.refl b w).drew.comp hx.ext) (fun hH' => ?_)
  clear hK K hH
  have hH := hH'
  clear hH'
  try simp only [List.setIfInBounds_toArray, List.set]
  refine wpAnyH_take (i := 9) (oi := ?o9f) (v := ?v9f) ?h9f (by kernel_rfl) ?f9f ?r9f (fun _ _ _ h => h) (Or.inl ⟨?w9f, ?y9f⟩) (by assumption) ?t9f
  case h9f => simp only [List.getElem?_toArray]; rfl
  case f9f => kernel_rfl
  case r9f => kernel_rfl
  case w9f => rfl
  case y9f => (intro u hu; (go_simp) <;> with_reducible rfl)
  try simp only [Act.put, List.setIfInBounds_toArray, List.set_cons_zero, List.set_cons_succ]
  refine wpAnyH_take (i := 10) (oi := ?o10f) (v := ?v10f) ?h10f (by kernel_rfl) ?f10f ?r10f (fun _ _ _ h => h) (Or.inl ⟨?w10f, ?y10f⟩) (by assumption) ?t10f
  case h10f => simp only [List.getElem?_toArray]; rfl
  case f10f => kernel_rfl
  case r10f => kernel_rfl
  case w10f => rfl
  case y10f => (intro u hu; (go_simp) <;> with_reducible rfl)
  try simp only [Act.put, List.setIfInBounds_toArray, List.set_cons_zero, List.set_cons_succ]
  refine wpAnyH_take (i := 11) (oi := ?o11f) (v := ?v11f) ?h11f (by kernel_rfl) ?f11f ?r11f (fun _ _ _ h => h) (Or.inl ⟨?w11f, ?y11f⟩) (by assumption) ?t11f
  case h11f => simp only [List.getElem?_toArray]; rfl
  case f11f => kernel_rfl
  case r11f => kernel_rfl
  case w11f => rfl
  case y11f => (intro u hu; (go_simp) <;> with_reducible rfl)
  try simp only [Act.put, List.setIfInBounds_toArray, List.set_cons_zero, List.set_cons_succ]
  refine wpAnyH_take (i := 12) (oi := ?o12f) (v := ?v12f) ?h12f (by kernel_rfl) ?f12f ?r12f (fun _ _ _ h => h) (Or.inl ⟨?w12f, ?y12f⟩) (by assumption) ?t12f
  case h12f => simp only [List.getElem?_toArray]; rfl
  case f12f => kernel_rfl
  case r12f => kernel_rfl
  case w12f => rfl
  case y12f => (intro u hu; (go_simp) <;> with_reducible rfl)
  try simp only [Act.put, List.setIfInBounds_toArray, List.set_cons_zero, List.set_cons_succ]
  refine wpAnyH_take (i := 13) (oi := ?o13f) (v := ?v13f) ?h13f (by kernel_rfl) ?f13f ?r13f (fun _ _ _ h => h) (Or.inl ⟨?w13f, ?y13f⟩) (by assumption) ?t13f
  case h13f => simp only [List.getElem?_toArray]; rfl
  case f13f => kernel_rfl
  case r13f => kernel_rfl
  case w13f => rfl
  case y13f => (intro u hu; (go_simp) <;> with_reducible rfl)
  try simp only [Act.put, List.setIfInBounds_toArray, List.set_cons_zero, List.set_cons_succ]
  refine wpAnyH_done (by kernel_rfl) ?_ _
  refine NoPanic.normal ?_
  have HFR : Hid (Fr w.heap.size a1 m1) := hfr.mono (Nat.le_refl _)
  replace RX : Hid (Rd V a1 m1 c1 X) := RX
  have HE' : Hid (ExtB b w V) := hH
  replace HS : Hid (My V b k h n' H C) := HS.out.drew.cip HT.out hx
  replace HG : Hid (Gb V) := HG.out.extb hH hb0 hb1
  replace HRT : Hid (Rd V at' lt ct text) := hkp _ _ _ _ (HRT.out.below (Below.refl _ _).drew)
  clear hkp
  clear HT hx hfr hH
  by_cases h0 : E = 0
  · subst h0
    go_wp2_with fail
    refine (mixhash10_c b k h n' H C at' lt ct text _ HS.out HRT.out HG.out (by omega)).mono ?_
    rintro e V2 ⟨rfl, HS2, hx⟩
    replace RX : Hid (Rd V2 a1 m1 c1 X) := RX.out.nq hx (HFR.out.nq HLT.out)
    replace HE' : Hid (ExtB b w V2) := HE'.out.comp hx
    clear hx HS HG HRT
    go_wp2
    go_ret2
    exact ⟨a1, m1, c1, X, 0, n', rfl, HX, HE, HN, RX, by unfold Hid h10; rw [if_pos rfl]; exact HS2.out, HE'.out, HFR.out⟩
  · have hX0 : X = [] := by rw [HX.out]; exact ox9_no _ _ _ _ _ (by rw [← HE.out]; exact h0)
    rw [hX0] at HX
    clear hX0 RX HG HFR HRT
    go_wp2
    go_ret2
    exact ⟨none, 0, 0, [], E, n', rfl, HX, HE, HN, Rd.nil _ _ _ (fun _ => rfl), by unfold Hid h10; rw [if_neg h0]; exact HS.out, HE'.out, fr_nil⟩
end Go.Proofs.YtmibjgkakolhiaaDoor
