/-
  Proved: OctetNumbers returns true for every number of 32 bits, every number of 64 bits and every slice of bytes (the statement OctetNumbersSaid). No condition.
-/
import Derived.Test.YtdndgjacpnjjaaaOpen
namespace Go.Proofs.Ytdndgjacpnjjaaa
open Go.ChangeShapes Go.WideShapes Go.ChangeAt Go.RowKit

theorem Rd.cut {w : World} {a : Option Addr} {len cap : Nat} {l : List Int} (h : Rd w a len cap l) (k : Nat) (hk : k ≤ len) : Rd w a k cap (l.take k) :=
  ⟨by rw [List.length_take, h.hlen]; omega, Nat.le_trans hk h.hle, h.hnil, h.byt.take k, fun h0 => by
    obtain ⟨b, off, ha, hc⟩ := h.cell (by omega)
    refine ⟨b, off, ha, fun i hi => ?_⟩
    rw [hc i (by omega), List.getElem?_take_of_lt hi]⟩
theorem got_cut (l : List Int) (h : 4 ≤ l.length) : got 4 (l.take 4) = got 4 l := by
  unfold got
  rw [if_pos h, if_pos (by rw [List.length_take]; omega), List.take_take]
  rfl
theorem got_few (l : List Int) (h : ¬ 4 ≤ l.length) : got 4 l = 0 := by
  unfold got
  rw [if_neg h]
theorem got_lay4 (n : Int) (h0 : 0 ≤ n) (h1 : n < 4294967296) : got 4 (lay 4 n) = n := by
  unfold got
  rw [if_pos (by rw [lay_length]; omega), List.take_of_length_le (by rw [lay_length]; omega), leN_lay4 n h0 h1]
theorem got_lay8 (n : Int) (h0 : 0 ≤ n) (h1 : n < 18446744073709551616) : got 8 (lay 8 n) = n := by
  unfold got
  rw [if_pos (by rw [lay_length]; omega), List.take_of_length_le (by rw [lay_length]; omega), leN_lay8 n h0 h1]

set_option maxHeartbeats 4000000 in
theorem octetNumbers_walk (n m : Int) (a : Option Addr) (len cap : Nat) (l : List Int) (w : World) (n0 : 0 ≤ n) (n1 : n < 4294967296) (m0 : 0 ≤ m) (m1 : m < 18446744073709551616) (hr : Rd w a len cap l) (hm : len ≤ 140737488351232) :
    Calls Try.prog 4 #[.int .u32 n, .int .u64 m, .slice a len cap] w fun e w' => e = .returned (.bool true) ∧ Below w.heap.size w w' := by
  have HR : Hid (Rd w a len cap l) := hr
  have hle := hr.hle
  clear hr
  by_cases h4 : 4 ≤ len
  · go_enter Try.func4, Try.ntmps4
    go_wp2_with fail
    refine (put32_g _ _ n0 n1).mono ?_
    rintro e w1 ⟨g1, rfl, hrd1, hb1⟩
    have HE1 : Hid (Ext w w1) := hb1
    clear hb1
    go_wp2_with fail
    refine (get32_any _ _ _ _ _ hrd1 (by decide)).mono ?_
    rintro e w' ⟨rfl, hw⟩
    rw [hw]
    clear hw w'
    rw [got_lay4 n n0 n1]
    clear hrd1
    go_wp2_with fail
    refine (put64_g _ _ m0 m1).mono ?_
    rintro e w2 ⟨g2, rfl, hrd2, hb2⟩
    have HE2 : Hid (Ext w w2) := HE1.out.trans hb2
    clear hb2 HE1
    go_wp2_with fail
    refine (get64_any _ _ _ _ _ hrd2 (by decide)).mono ?_
    rintro e w' ⟨rfl, hw⟩
    rw [hw]
    clear hw w'
    rw [got_lay8 m m0 m1]
    clear hrd2
    go_wp2_with fail
    refine (get32_any _ _ _ l _ (HR.out.below HE2.out) (by omega)).mono ?_
    rintro e w' ⟨rfl, hw⟩
    rw [hw]
    clear hw w'
    go_wp2_with fail
    refine (refget32_any _ _ _ (l.take 4) _ ((HR.out.below HE2.out).cut 4 h4) (by decide)).mono ?_
    rintro e w3 ⟨rfl, nq, hw⟩
    rw [got_cut l (by rw [HR.out.hlen]; exact h4)]
    have HE : Hid (Ext w w3) := by unfold Hid; rw [hw]; exact below_drewN HE2.out nq
    clear HE2 hw
    go_wp2_with fail
    refine wp_region_noPanic ?_
    refine wp_region_held_drew (S := Ext w3) (by kernel_rfl) (Ext.refl _).drew (fun hH => ?_)
    replace HE : Hid (Ext w w3.drew) := HE.out.drew
    refine wpAnyH_ready (rs := [0]) (by kernel_rfl) (by simp) ?_
    refine AllReadyH.cons (o := ?o0) ?h0 (fun K hK => ?_) AllReadyH.nil
    case h0 => simp only [List.getElem?_toArray, List.getElem?_cons_zero]; rfl
    go_simp
    refine (known_any _).mono ?_
    rintro e w4 ⟨rfl, hb4⟩
    refine hK.out _ _ (Ext.trans hH hb4) (fun hH' => ?_)
    clear hK K
    try simp only [Act.put, List.setIfInBounds_toArray, List.set_cons_zero, List.set_cons_succ]
    refine wpAnyH_mono (S' := Ext w4) (fun u hu => Ext.trans hH' hu) ?_
    replace HE : Hid (Ext w w4) := Ext.trans HE.out hb4
    clear hH hH' hb4
    have hH := Ext.refl w4
    refine wpAnyH_take (i := 1) (oi := ?o1) (v := ?v1) ?h1 (by kernel_rfl) ?f1 ?r1 (fun _ _ _ h => h) (Or.inl ⟨?w1, ?y1⟩) (by assumption) ?t1
    case h1 => simp only [List.getElem?_toArray, List.getElem?_cons_succ, List.getElem?_cons_zero]; rfl
    case f1 => kernel_rfl
    case r1 => kernel_rfl
    case w1 => rfl
    case y1 => (intro u hu; (go_simp) <;> with_reducible rfl)
    try simp only [Act.put, List.setIfInBounds_toArray, List.set_cons_zero, List.set_cons_succ]
    refine wpAnyH_take (i := 2) (oi := ?o2) (v := ?v2) ?h2 (by kernel_rfl) ?f2 ?r2 (fun _ _ _ h => h) (Or.inl ⟨?w2, ?y2⟩) (by assumption) ?t2
    case h2 => simp only [List.getElem?_toArray, List.getElem?_cons_succ, List.getElem?_cons_zero]; rfl
    case f2 => kernel_rfl
    case r2 => kernel_rfl
    case w2 => rfl
    case y2 => (intro u hu; (go_simp) <;> with_reducible rfl)
    try simp only [Act.put, List.setIfInBounds_toArray, List.set_cons_zero, List.set_cons_succ]
    refine wpAnyH_take (i := 5) (oi := ?o5) (v := ?v5) ?h5 (by kernel_rfl) ?f5 ?r5 (fun _ _ _ h => h) (Or.inl ⟨?w5, ?y5⟩) (by assumption) ?t5
    case h5 => simp only [List.getElem?_toArray, List.getElem?_cons_succ, List.getElem?_cons_zero]; rfl
    case f5 => kernel_rfl
    case r5 => kernel_rfl
    case w5 => rfl
    case y5 => (intro u hu; (go_simp) <;> with_reducible rfl)
    try simp only [Act.put, List.setIfInBounds_toArray, List.set_cons_zero, List.set_cons_succ]
    refine wpAnyH_ready (rs := [3]) (by kernel_rfl) (by simp) ?_
    refine AllReadyH.cons (o := ?o3) ?h3 (fun K hK => ?_) AllReadyH.nil
    case h3 => simp only [List.getElem?_toArray, List.getElem?_cons_succ, List.getElem?_cons_zero]; rfl
    go_simp
    refine (put32_g _ _ n0 n1).mono ?_
    rintro e w5 ⟨g5, rfl, hrd5, hb5⟩
    refine hK.out _ _ (Ext.trans hH hb5) (fun hH' => ?_)
    clear hK K
    try simp only [Act.put, List.setIfInBounds_toArray, List.set_cons_zero, List.set_cons_succ]
    refine wpAnyH_mono (S' := Ext w5) (fun u hu => Ext.trans hH' hu) ?_
    replace HE : Hid (Ext w w5) := Ext.trans HE.out hb5
    clear hH hH' hb5
    have hH := Ext.refl w5
    have hs5 : ∀ u, Ext w5 u → (convert 25 9 (.slice (some ⟨g5, 0, none⟩) 4 4)).run Try.prog u = .ok (.string (strOfNums (lay 4 n))) u := fun u hu => str_run (hrd5.below hu) _ rfl
    clear hrd5
    refine wpAnyH_take (i := 4) (oi := ?o4) (v := ?v4) ?h4 (by kernel_rfl) ?f4 ?r4 (fun _ _ _ h => h) (Or.inl ⟨?w4, ?y4⟩) (by assumption) ?t4
    case h4 => simp only [List.getElem?_toArray, List.getElem?_cons_succ, List.getElem?_cons_zero]; rfl
    case f4 => kernel_rfl
    case r4 => kernel_rfl
    case w4 => rfl
    case y4 => (intro u hu; (go_simp) <;> with_reducible rfl)
    try simp only [Act.put, List.setIfInBounds_toArray, List.set_cons_zero, List.set_cons_succ]
    clear hs5
    refine wpAnyH_ready (rs := [6]) (by kernel_rfl) (by simp) ?_
    refine AllReadyH.cons (o := ?o6) ?h6 (fun K hK => ?_) AllReadyH.nil
    case h6 => simp only [List.getElem?_toArray, List.getElem?_cons_succ, List.getElem?_cons_zero]; rfl
    go_simp
    refine (refput32_g _ _ n0 n1).mono ?_
    rintro e w6 ⟨g6, rfl, hrd6, hb6⟩
    refine hK.out _ _ (Ext.trans hH hb6) (fun hH' => ?_)
    clear hK K
    try simp only [Act.put, List.setIfInBounds_toArray, List.set_cons_zero, List.set_cons_succ]
    refine wpAnyH_mono (S' := Ext w6) (fun u hu => Ext.trans hH' hu) ?_
    replace HE : Hid (Ext w w6) := Ext.trans HE.out hb6
    clear hH hH' hb6
    have hH := Ext.refl w6
    have hs6 : ∀ u, Ext w6 u → (convert 25 9 (.slice (some ⟨g6, 0, none⟩) 4 4)).run Try.prog u = .ok (.string (strOfNums (lay 4 n))) u := fun u hu => str_run (hrd6.below hu) _ rfl
    clear hrd6
    refine wpAnyH_take (i := 7) (oi := ?o7) (v := ?v7) ?h7 (by kernel_rfl) ?f7 ?r7 (fun _ _ _ h => h) (Or.inl ⟨?w7, ?y7⟩) (by assumption) ?t7
    case h7 => simp only [List.getElem?_toArray, List.getElem?_cons_succ, List.getElem?_cons_zero]; rfl
    case f7 => kernel_rfl
    case r7 => kernel_rfl
    case w7 => rfl
    case y7 => (intro u hu; (go_simp) <;> with_reducible rfl)
    try simp only [Act.put, List.setIfInBounds_toArray, List.set_cons_zero, List.set_cons_succ]
    clear hs6
    refine wpAnyH_take (i := 8) (oi := ?o8) (v := ?v8) ?h8 (by kernel_rfl) ?f8 ?r8 (fun _ _ _ h => h) (Or.inl ⟨?w8, ?y8⟩) (by assumption) ?t8
    case h8 => simp only [List.getElem?_toArray, List.getElem?_cons_succ, List.getElem?_cons_zero]; rfl
    case f8 => kernel_rfl
    case r8 => kernel_rfl
    case w8 => rfl
    case y8 => (intro u hu; (go_simp) <;> with_reducible rfl)
    try simp only [Act.put, List.setIfInBounds_toArray, List.set_cons_zero, List.set_cons_succ]
    refine wpAnyH_take (i := 9) (oi := ?o9) (v := ?v9) ?h9 (by kernel_rfl) ?f9 ?r9 (fun _ _ _ h => h) (Or.inl ⟨?w9, ?y9⟩) (by assumption) ?t9
    case h9 => simp only [List.getElem?_toArray, List.getElem?_cons_succ, List.getElem?_cons_zero]; rfl
    case f9 => kernel_rfl
    case r9 => kernel_rfl
    case w9 => rfl
    case y9 => (intro u hu; (go_simp) <;> with_reducible rfl)
    try simp only [Act.put, List.setIfInBounds_toArray, List.set_cons_zero, List.set_cons_succ]
    refine wpAnyH_take (i := 10) (oi := ?o10) (v := ?v10) ?h10 (by kernel_rfl) ?f10 ?r10 (fun _ _ _ h => h) (Or.inl ⟨?w10, ?y10⟩) (by assumption) ?t10
    case h10 => simp only [List.getElem?_toArray, List.getElem?_cons_succ, List.getElem?_cons_zero]; rfl
    case f10 => kernel_rfl
    case r10 => kernel_rfl
    case w10 => rfl
    case y10 => (intro u hu; (go_simp) <;> with_reducible rfl)
    try simp only [Act.put, List.setIfInBounds_toArray, List.set_cons_zero, List.set_cons_succ]
    refine wpAnyH_take (i := 11) (oi := ?o11) (v := ?v11) ?h11 (by kernel_rfl) ?f11 ?r11 (fun _ _ _ h => h) (Or.inl ⟨?w11, ?y11⟩) (by assumption) ?t11
    case h11 => simp only [List.getElem?_toArray, List.getElem?_cons_succ, List.getElem?_cons_zero]; rfl
    case f11 => kernel_rfl
    case r11 => kernel_rfl
    case w11 => rfl
    case y11 => (intro u hu; (go_simp) <;> with_reducible rfl)
    try simp only [Act.put, List.setIfInBounds_toArray, List.set_cons_zero, List.set_cons_succ]
    refine wpAnyH_take (i := 14) (oi := ?o14) (v := ?v14) ?h14 (by kernel_rfl) ?f14 ?r14 (fun _ _ _ h => h) (Or.inl ⟨?w14, ?y14⟩) (by assumption) ?t14
    case h14 => simp only [List.getElem?_toArray, List.getElem?_cons_succ, List.getElem?_cons_zero]; rfl
    case f14 => kernel_rfl
    case r14 => kernel_rfl
    case w14 => rfl
    case y14 => (intro u hu; (go_simp) <;> with_reducible rfl)
    try simp only [Act.put, List.setIfInBounds_toArray, List.set_cons_zero, List.set_cons_succ]
    refine wpAnyH_ready (rs := [12]) (by kernel_rfl) (by simp) ?_
    refine AllReadyH.cons (o := ?o12) ?h12 (fun K hK => ?_) AllReadyH.nil
    case h12 => simp only [List.getElem?_toArray, List.getElem?_cons_succ, List.getElem?_cons_zero]; rfl
    go_simp
    refine (put64_g _ _ m0 m1).mono ?_
    rintro e w7 ⟨g7, rfl, hrd7, hb7⟩
    refine hK.out _ _ (Ext.trans hH hb7) (fun hH' => ?_)
    clear hK K
    try simp only [Act.put, List.setIfInBounds_toArray, List.set_cons_zero, List.set_cons_succ]
    refine wpAnyH_mono (S' := Ext w7) (fun u hu => Ext.trans hH' hu) ?_
    replace HE : Hid (Ext w w7) := Ext.trans HE.out hb7
    clear hH hH' hb7
    have hH := Ext.refl w7
    have hs7 : ∀ u, Ext w7 u → (convert 25 9 (.slice (some ⟨g7, 0, none⟩) 8 8)).run Try.prog u = .ok (.string (strOfNums (lay 8 m))) u := fun u hu => str_run (hrd7.below hu) _ rfl
    clear hrd7
    refine wpAnyH_take (i := 13) (oi := ?o13) (v := ?v13) ?h13 (by kernel_rfl) ?f13 ?r13 (fun _ _ _ h => h) (Or.inl ⟨?w13, ?y13⟩) (by assumption) ?t13
    case h13 => simp only [List.getElem?_toArray, List.getElem?_cons_succ, List.getElem?_cons_zero]; rfl
    case f13 => kernel_rfl
    case r13 => kernel_rfl
    case w13 => rfl
    case y13 => (intro u hu; (go_simp) <;> with_reducible rfl)
    try simp only [Act.put, List.setIfInBounds_toArray, List.set_cons_zero, List.set_cons_succ]
    clear hs7
    refine wpAnyH_ready (rs := [15]) (by kernel_rfl) (by simp) ?_
    refine AllReadyH.cons (o := ?o15) ?h15 (fun K hK => ?_) AllReadyH.nil
    case h15 => simp only [List.getElem?_toArray, List.getElem?_cons_succ, List.getElem?_cons_zero]; rfl
    go_simp
    refine (refput64_any _ _ m0 m1).mono ?_
    rintro e w8 ⟨a8, c8, rfl, hrd8, hb8⟩
    refine hK.out _ _ (Ext.trans hH hb8) (fun hH' => ?_)
    clear hK K
    try simp only [Act.put, List.setIfInBounds_toArray, List.set_cons_zero, List.set_cons_succ]
    refine wpAnyH_mono (S' := Ext w8) (fun u hu => Ext.trans hH' hu) ?_
    replace HE : Hid (Ext w w8) := Ext.trans HE.out hb8
    clear hH hH' hb8
    have hH := Ext.refl w8
    have hs8 : ∀ u, Ext w8 u → (convert 25 9 (.slice a8 8 c8)).run Try.prog u = .ok (.string (strOfNums (lay 8 m))) u := fun u hu => str_run (hrd8.below hu) _ rfl
    clear hrd8
    refine wpAnyH_take (i := 16) (oi := ?o16) (v := ?v16) ?h16 (by kernel_rfl) ?f16 ?r16 (fun _ _ _ h => h) (Or.inl ⟨?w16, ?y16⟩) (by assumption) ?t16
    case h16 => simp only [List.getElem?_toArray, List.getElem?_cons_succ, List.getElem?_cons_zero]; rfl
    case f16 => kernel_rfl
    case r16 => kernel_rfl
    case w16 => rfl
    case y16 => (intro u hu; (go_simp) <;> with_reducible rfl)
    try simp only [Act.put, List.setIfInBounds_toArray, List.set_cons_zero, List.set_cons_succ]
    clear hs8
    refine wpAnyH_take (i := 17) (oi := ?o17) (v := ?v17) ?h17 (by kernel_rfl) ?f17 ?r17 (fun _ _ _ h => h) (Or.inl ⟨?w17, ?y17⟩) (by assumption) ?t17
    case h17 => simp only [List.getElem?_toArray, List.getElem?_cons_succ, List.getElem?_cons_zero]; rfl
    case f17 => kernel_rfl
    case r17 => kernel_rfl
    case w17 => rfl
    case y17 => (intro u hu; (go_simp) <;> with_reducible rfl)
    try simp only [Act.put, List.setIfInBounds_toArray, List.set_cons_zero, List.set_cons_succ]
    refine wpAnyH_take (i := 18) (oi := ?o18) (v := ?v18) ?h18 (by kernel_rfl) ?f18 ?r18 (fun _ _ _ h => h) (Or.inl ⟨?w18, ?y18⟩) (by assumption) ?t18
    case h18 => simp only [List.getElem?_toArray, List.getElem?_cons_succ, List.getElem?_cons_zero]; rfl
    case f18 => kernel_rfl
    case r18 => kernel_rfl
    case w18 => rfl
    case y18 => (intro u hu; (go_simp) <;> with_reducible rfl)
    try simp only [Act.put, List.setIfInBounds_toArray, List.set_cons_zero, List.set_cons_succ]
    refine wpAnyH_take (i := 19) (oi := ?o19) (v := ?v19) ?h19 (by kernel_rfl) ?f19 ?r19 (fun _ _ _ h => h) (Or.inl ⟨?w19, ?y19⟩) (by assumption) ?t19
    case h19 => simp only [List.getElem?_toArray, List.getElem?_cons_succ, List.getElem?_cons_zero]; rfl
    case f19 => kernel_rfl
    case r19 => kernel_rfl
    case w19 => rfl
    case y19 => (intro u hu; (go_simp) <;> with_reducible rfl)
    try simp only [Act.put, List.setIfInBounds_toArray, List.set_cons_zero, List.set_cons_succ]
    refine wpAnyH_take (i := 20) (oi := ?o20) (v := ?v20) ?h20 (by kernel_rfl) ?f20 ?r20 (fun _ _ _ h => h) (Or.inl ⟨?w20, ?y20⟩) (by assumption) ?t20
    case h20 => simp only [List.getElem?_toArray, List.getElem?_cons_succ, List.getElem?_cons_zero]; rfl
    case f20 => kernel_rfl
    case r20 => kernel_rfl
    case w20 => rfl
    case y20 => (intro u hu; (go_simp) <;> with_reducible rfl)
    try simp only [Act.put, List.setIfInBounds_toArray, List.set_cons_zero, List.set_cons_succ]
    refine wpAnyH_take (i := 21) (oi := ?o21) (v := ?v21) ?h21 (by kernel_rfl) ?f21 ?r21 (fun _ _ _ h => h) (Or.inl ⟨?w21, ?y21⟩) (by assumption) ?t21
    case h21 => simp only [List.getElem?_toArray, List.getElem?_cons_succ, List.getElem?_cons_zero]; rfl
    case f21 => kernel_rfl
    case r21 => kernel_rfl
    case w21 => rfl
    case y21 => (intro u hu; (go_simp) <;> with_reducible rfl)
    try simp only [Act.put, List.setIfInBounds_toArray, List.set_cons_zero, List.set_cons_succ]
    refine wpAnyH_take (i := 22) (oi := ?o22) (v := ?v22) ?h22 (by kernel_rfl) ?f22 ?r22 (fun _ _ _ h => h) (Or.inl ⟨?w22, ?y22⟩) (by assumption) ?t22
    case h22 => simp only [List.getElem?_toArray, List.getElem?_cons_succ, List.getElem?_cons_zero]; rfl
    case f22 => kernel_rfl
    case r22 => kernel_rfl
    case w22 => rfl
    case y22 => (intro u hu; (go_simp) <;> with_reducible rfl)
    try simp only [Act.put, List.setIfInBounds_toArray, List.set_cons_zero, List.set_cons_succ]
    refine wpAnyH_take (i := 23) (oi := ?o23) (v := ?v23) ?h23 (by kernel_rfl) ?f23 ?r23 (fun _ _ _ h => h) (Or.inl ⟨?w23, ?y23⟩) (by assumption) ?t23
    case h23 => simp only [List.getElem?_toArray, List.getElem?_cons_succ, List.getElem?_cons_zero]; rfl
    case f23 => kernel_rfl
    case r23 => kernel_rfl
    case w23 => rfl
    case y23 => (intro u hu; (go_simp) <;> with_reducible rfl)
    try simp only [Act.put, List.setIfInBounds_toArray, List.set_cons_zero, List.set_cons_succ]
    refine wpAnyH_take (i := 24) (oi := ?o24) (v := ?v24) ?h24 (by kernel_rfl) ?f24 ?r24 (fun _ _ _ h => h) (Or.inl ⟨?w24, ?y24⟩) (by assumption) ?t24
    case h24 => simp only [List.getElem?_toArray, List.getElem?_cons_succ, List.getElem?_cons_zero]; rfl
    case f24 => kernel_rfl
    case r24 => kernel_rfl
    case w24 => rfl
    case y24 => (intro u hu; (go_simp) <;> with_reducible rfl)
    try simp only [Act.put, List.setIfInBounds_toArray, List.set_cons_zero, List.set_cons_succ]
    refine wpAnyH_take (i := 25) (oi := ?o25) (v := ?v25) ?h25 (by kernel_rfl) ?f25 ?r25 (fun _ _ _ h => h) (Or.inl ⟨?w25, ?y25⟩) (by assumption) ?t25
    case h25 => simp only [List.getElem?_toArray, List.getElem?_cons_succ, List.getElem?_cons_zero]; rfl
    case f25 => kernel_rfl
    case r25 => kernel_rfl
    case w25 => rfl
    case y25 => (intro u hu; (go_simp) <;> with_reducible rfl)
    try simp only [Act.put, List.setIfInBounds_toArray, List.set_cons_zero, List.set_cons_succ]
    refine wpAnyH_take (i := 26) (oi := ?o26) (v := ?v26) ?h26 (by kernel_rfl) ?f26 ?r26 (fun _ _ _ h => h) (Or.inl ⟨?w26, ?y26⟩) (by assumption) ?t26
    case h26 => simp only [List.getElem?_toArray, List.getElem?_cons_succ, List.getElem?_cons_zero]; rfl
    case f26 => kernel_rfl
    case r26 => kernel_rfl
    case w26 => rfl
    case y26 => (intro u hu; (go_simp) <;> with_reducible rfl)
    try simp only [Act.put, List.setIfInBounds_toArray, List.set_cons_zero, List.set_cons_succ]
    refine wpAnyH_take (i := 27) (oi := ?o27) (v := ?v27) ?h27 (by kernel_rfl) ?f27 ?r27 (fun _ _ _ h => h) (Or.inl ⟨?w27, ?y27⟩) (by assumption) ?t27
    case h27 => simp only [List.getElem?_toArray, List.getElem?_cons_succ, List.getElem?_cons_zero]; rfl
    case f27 => kernel_rfl
    case r27 => kernel_rfl
    case w27 => rfl
    case y27 => (intro u hu; (go_simp) <;> with_reducible rfl)
    try simp only [Act.put, List.setIfInBounds_toArray, List.set_cons_zero, List.set_cons_succ]
    refine wpAnyH_take (i := 28) (oi := ?o28) (v := ?v28) ?h28 (by kernel_rfl) ?f28 ?r28 (fun _ _ _ h => h) (Or.inl ⟨?w28, ?y28⟩) (by assumption) ?t28
    case h28 => simp only [List.getElem?_toArray, List.getElem?_cons_succ, List.getElem?_cons_zero]; rfl
    case f28 => kernel_rfl
    case r28 => kernel_rfl
    case w28 => rfl
    case y28 => (intro u hu; (go_simp) <;> with_reducible rfl)
    try simp only [Act.put, List.setIfInBounds_toArray, List.set_cons_zero, List.set_cons_succ]
    refine wpAnyH_take (i := 29) (oi := ?o29) (v := ?v29) ?h29 (by kernel_rfl) ?f29 ?r29 (fun _ _ _ h => h) (Or.inl ⟨?w29, ?y29⟩) (by assumption) ?t29
    case h29 => simp only [List.getElem?_toArray, List.getElem?_cons_succ, List.getElem?_cons_zero]; rfl
    case f29 => kernel_rfl
    case r29 => kernel_rfl
    case w29 => rfl
    case y29 => (intro u hu; (go_simp) <;> with_reducible rfl)
    try simp only [Act.put, List.setIfInBounds_toArray, List.set_cons_zero, List.set_cons_succ]
    refine wpAnyH_take (i := 30) (oi := ?o30) (v := ?v30) ?h30 (by kernel_rfl) ?f30 ?r30 (fun _ _ _ h => h) (Or.inl ⟨?w30, ?y30⟩) (by assumption) ?t30
    case h30 => simp only [List.getElem?_toArray, List.getElem?_cons_succ, List.getElem?_cons_zero]; rfl
    case f30 => kernel_rfl
    case r30 => kernel_rfl
    case w30 => rfl
    case y30 => (intro u hu; (go_simp) <;> with_reducible rfl)
    try simp only [Act.put, List.setIfInBounds_toArray, List.set_cons_zero, List.set_cons_succ]
    refine wpAnyH_take (i := 31) (oi := ?o31) (v := ?v31) ?h31 (by kernel_rfl) ?f31 ?r31 (fun _ _ _ h => h) (Or.inl ⟨?w31, ?y31⟩) (by assumption) ?t31
    case h31 => simp only [List.getElem?_toArray, List.getElem?_cons_succ, List.getElem?_cons_zero]; rfl
    case f31 => kernel_rfl
    case r31 => kernel_rfl
    case w31 => rfl
    case y31 => (intro u hu; (go_simp) <;> with_reducible rfl)
    try simp only [Act.put, List.setIfInBounds_toArray, List.set_cons_zero, List.set_cons_succ]
    refine wpAnyH_take (i := 32) (oi := ?o32) (v := ?v32) ?h32 (by kernel_rfl) ?f32 ?r32 (fun _ _ _ h => h) (Or.inl ⟨?w32, ?y32⟩) (by assumption) ?t32
    case h32 => simp only [List.getElem?_toArray, List.getElem?_cons_succ, List.getElem?_cons_zero]; rfl
    case f32 => kernel_rfl
    case r32 => kernel_rfl
    case w32 => rfl
    case y32 => (intro u hu; (go_simp) <;> with_reducible rfl)
    try simp only [Act.put, List.setIfInBounds_toArray, List.set_cons_zero, List.set_cons_succ]
    refine wpAnyH_take (i := 33) (oi := ?o33) (v := ?v33) ?h33 (by kernel_rfl) ?f33 ?r33 (fun _ _ _ h => h) (Or.inl ⟨?w33, ?y33⟩) (by assumption) ?t33
    case h33 => simp only [List.getElem?_toArray, List.getElem?_cons_succ, List.getElem?_cons_zero]; rfl
    case f33 => kernel_rfl
    case r33 => kernel_rfl
    case w33 => rfl
    case y33 => (intro u hu; (go_simp) <;> with_reducible rfl)
    try simp only [Act.put, List.setIfInBounds_toArray, List.set_cons_zero, List.set_cons_succ]
    refine wpAnyH_take (i := 34) (oi := ?o34) (v := ?v34) ?h34 (by kernel_rfl) ?f34 ?r34 (fun _ _ _ h => h) (Or.inl ⟨?w34, ?y34⟩) (by assumption) ?t34
    case h34 => simp only [List.getElem?_toArray, List.getElem?_cons_succ, List.getElem?_cons_zero]; rfl
    case f34 => kernel_rfl
    case r34 => kernel_rfl
    case w34 => rfl
    case y34 => (intro u hu; (go_simp) <;> with_reducible rfl)
    try simp only [Act.put, List.setIfInBounds_toArray, List.set_cons_zero, List.set_cons_succ]
    refine wpAnyH_take (i := 35) (oi := ?o35) (v := ?v35) ?h35 (by kernel_rfl) ?f35 ?r35 (fun _ _ _ h => h) (Or.inl ⟨?w35, ?y35⟩) (by assumption) ?t35
    case h35 => simp only [List.getElem?_toArray, List.getElem?_cons_succ, List.getElem?_cons_zero]; rfl
    case f35 => kernel_rfl
    case r35 => kernel_rfl
    case w35 => rfl
    case y35 => (intro u hu; (go_simp) <;> with_reducible rfl)
    try simp only [Act.put, List.setIfInBounds_toArray, List.set_cons_zero, List.set_cons_succ]
    refine wpAnyH_take (i := 36) (oi := ?o36) (v := ?v36) ?h36 (by kernel_rfl) ?f36 ?r36 (fun _ _ _ h => h) (Or.inl ⟨?w36, ?y36⟩) (by assumption) ?t36
    case h36 => simp only [List.getElem?_toArray, List.getElem?_cons_succ, List.getElem?_cons_zero]; rfl
    case f36 => kernel_rfl
    case r36 => kernel_rfl
    case w36 => rfl
    case y36 => (intro u hu; (go_simp) <;> with_reducible rfl)
    try simp only [Act.put, List.setIfInBounds_toArray, List.set_cons_zero, List.set_cons_succ]
    refine wpAnyH_take (i := 37) (oi := ?o37) (v := ?v37) ?h37 (by kernel_rfl) ?f37 ?r37 (fun _ _ _ h => h) (Or.inl ⟨?w37, ?y37⟩) (by assumption) ?t37
    case h37 => simp only [List.getElem?_toArray, List.getElem?_cons_succ, List.getElem?_cons_zero]; rfl
    case f37 => kernel_rfl
    case r37 => kernel_rfl
    case w37 => rfl
    case y37 => (intro u hu; (go_simp) <;> with_reducible rfl)
    try simp only [Act.put, List.setIfInBounds_toArray, List.set_cons_zero, List.set_cons_succ]
    refine wpAnyH_take (i := 38) (oi := ?o38) (v := ?v38) ?h38 (by kernel_rfl) ?f38 ?r38 (fun _ _ _ h => h) (Or.inl ⟨?w38, ?y38⟩) (by assumption) ?t38
    case h38 => simp only [List.getElem?_toArray, List.getElem?_cons_succ, List.getElem?_cons_zero]; rfl
    case f38 => kernel_rfl
    case r38 => kernel_rfl
    case w38 => rfl
    case y38 => (intro u hu; (go_simp) <;> with_reducible rfl)
    try simp only [Act.put, List.setIfInBounds_toArray, List.set_cons_zero, List.set_cons_succ]
    refine wpAnyH_take (i := 39) (oi := ?o39) (v := ?v39) ?h39 (by kernel_rfl) ?f39 ?r39 (fun _ _ _ h => h) (Or.inl ⟨?w39, ?y39⟩) (by assumption) ?t39
    case h39 => simp only [List.getElem?_toArray, List.getElem?_cons_succ, List.getElem?_cons_zero]; rfl
    case f39 => kernel_rfl
    case r39 => kernel_rfl
    case w39 => rfl
    case y39 => (intro u hu; (go_simp) <;> with_reducible rfl)
    try simp only [Act.put, List.setIfInBounds_toArray, List.set_cons_zero, List.set_cons_succ]
    refine wpAnyH_take (i := 40) (oi := ?o40) (v := ?v40) ?h40 (by kernel_rfl) ?f40 ?r40 (fun _ _ _ h => h) (Or.inl ⟨?w40, ?y40⟩) (by assumption) ?t40
    case h40 => simp only [List.getElem?_toArray, List.getElem?_cons_succ, List.getElem?_cons_zero]; rfl
    case f40 => kernel_rfl
    case r40 => kernel_rfl
    case w40 => rfl
    case y40 => (intro u hu; (go_simp) <;> with_reducible rfl)
    try simp only [Act.put, List.setIfInBounds_toArray, List.set_cons_zero, List.set_cons_succ]
    refine wpAnyH_take (i := 41) (oi := ?o41) (v := ?v41) ?h41 (by kernel_rfl) ?f41 ?r41 (fun _ _ _ h => h) (Or.inl ⟨?w41, ?y41⟩) (by assumption) ?t41
    case h41 => simp only [List.getElem?_toArray, List.getElem?_cons_succ, List.getElem?_cons_zero]; rfl
    case f41 => kernel_rfl
    case r41 => kernel_rfl
    case w41 => rfl
    case y41 => (intro u hu; (go_simp) <;> with_reducible rfl)
    try simp only [Act.put, List.setIfInBounds_toArray, List.set_cons_zero, List.set_cons_succ]
    refine wpAnyH_take (i := 42) (oi := ?o42) (v := ?v42) ?h42 (by kernel_rfl) ?f42 ?r42 (fun _ _ _ h => h) (Or.inl ⟨?w42, ?y42⟩) (by assumption) ?t42
    case h42 => simp only [List.getElem?_toArray, List.getElem?_cons_succ, List.getElem?_cons_zero]; rfl
    case f42 => kernel_rfl
    case r42 => kernel_rfl
    case w42 => rfl
    case y42 => (intro u hu; (go_simp) <;> with_reducible rfl)
    try simp only [Act.put, List.setIfInBounds_toArray, List.set_cons_zero, List.set_cons_succ]
    refine wpAnyH_take (i := 43) (oi := ?o43) (v := ?v43) ?h43 (by kernel_rfl) ?f43 ?r43 (fun _ _ _ h => h) (Or.inl ⟨?w43, ?y43⟩) (by assumption) ?t43
    case h43 => simp only [List.getElem?_toArray, List.getElem?_cons_succ, List.getElem?_cons_zero]; rfl
    case f43 => kernel_rfl
    case r43 => kernel_rfl
    case w43 => rfl
    case y43 => (intro u hu; (go_simp) <;> with_reducible rfl)
    try simp only [Act.put, List.setIfInBounds_toArray, List.set_cons_zero, List.set_cons_succ]
    refine wpAnyH_take (i := 44) (oi := ?o44) (v := ?v44) ?h44 (by kernel_rfl) ?f44 ?r44 (fun _ _ _ h => h) (Or.inl ⟨?w44, ?y44⟩) (by assumption) ?t44
    case h44 => simp only [List.getElem?_toArray, List.getElem?_cons_succ, List.getElem?_cons_zero]; rfl
    case f44 => kernel_rfl
    case r44 => kernel_rfl
    case w44 => rfl
    case y44 => (intro u hu; (go_simp) <;> with_reducible rfl)
    try simp only [Act.put, List.setIfInBounds_toArray, List.set_cons_zero, List.set_cons_succ]
    refine wpAnyH_take (i := 45) (oi := ?o45) (v := ?v45) ?h45 (by kernel_rfl) ?f45 ?r45 (fun _ _ _ h => h) (Or.inl ⟨?w45, ?y45⟩) (by assumption) ?t45
    case h45 => simp only [List.getElem?_toArray, List.getElem?_cons_succ, List.getElem?_cons_zero]; rfl
    case f45 => kernel_rfl
    case r45 => kernel_rfl
    case w45 => rfl
    case y45 => (intro u hu; (go_simp) <;> with_reducible rfl)
    try simp only [Act.put, List.setIfInBounds_toArray, List.set_cons_zero, List.set_cons_succ]
    refine wpAnyH_take (i := 46) (oi := ?o46) (v := ?v46) ?h46 (by kernel_rfl) ?f46 ?r46 (fun _ _ _ h => h) (Or.inl ⟨?w46, ?y46⟩) (by assumption) ?t46
    case h46 => simp only [List.getElem?_toArray, List.getElem?_cons_succ, List.getElem?_cons_zero]; rfl
    case f46 => kernel_rfl
    case r46 => kernel_rfl
    case w46 => rfl
    case y46 => (intro u hu; (go_simp) <;> with_reducible rfl)
    try simp only [Act.put, List.setIfInBounds_toArray, List.set_cons_zero, List.set_cons_succ]
    refine wpAnyH_take (i := 47) (oi := ?o47) (v := ?v47) ?h47 (by kernel_rfl) ?f47 ?r47 (fun _ _ _ h => h) (Or.inl ⟨?w47, ?y47⟩) (by assumption) ?t47
    case h47 => simp only [List.getElem?_toArray, List.getElem?_cons_succ, List.getElem?_cons_zero]; rfl
    case f47 => kernel_rfl
    case r47 => kernel_rfl
    case w47 => rfl
    case y47 => (intro u hu; (go_simp) <;> with_reducible rfl)
    try simp only [Act.put, List.setIfInBounds_toArray, List.set_cons_zero, List.set_cons_succ]
    refine wpAnyH_done (by kernel_rfl) ?_ _
    refine NoPanic.normal ?_
    go_wp2
    go_ret
    exact ⟨rfl, HE.out⟩
  · go_enter Try.func4, Try.ntmps4
    go_wp2_with fail
    refine (put32_g _ _ n0 n1).mono ?_
    rintro e w1 ⟨g1, rfl, hrd1, hb1⟩
    have HE1 : Hid (Ext w w1) := hb1
    clear hb1
    go_wp2_with fail
    refine (get32_any _ _ _ _ _ hrd1 (by decide)).mono ?_
    rintro e w' ⟨rfl, hw⟩
    rw [hw]
    clear hw w'
    rw [got_lay4 n n0 n1]
    clear hrd1
    go_wp2_with fail
    refine (put64_g _ _ m0 m1).mono ?_
    rintro e w2 ⟨g2, rfl, hrd2, hb2⟩
    have HE2 : Hid (Ext w w2) := HE1.out.trans hb2
    clear hb2 HE1
    go_wp2_with fail
    refine (get64_any _ _ _ _ _ hrd2 (by decide)).mono ?_
    rintro e w' ⟨rfl, hw⟩
    rw [hw]
    clear hw w'
    rw [got_lay8 m m0 m1]
    clear hrd2
    go_wp2_with fail
    refine (get32_any _ _ _ l _ (HR.out.below HE2.out) (by omega)).mono ?_
    rintro e w' ⟨rfl, hw⟩
    rw [hw]
    clear hw w'
    rw [got_few l (by rw [HR.out.hlen]; exact h4)]
    have HE : Hid (Ext w w2) := HE2.out
    clear HE2
    go_wp2_with fail
    refine wp_region_noPanic ?_
    refine wp_region_held_drew (S := Ext w2) (by kernel_rfl) (Ext.refl _).drew (fun hH => ?_)
    replace HE : Hid (Ext w w2.drew) := HE.out.drew
    refine wpAnyH_ready (rs := [0]) (by kernel_rfl) (by simp) ?_
    refine AllReadyH.cons (o := ?o0b) ?h0b (fun K hK => ?_) AllReadyH.nil
    case h0b => simp only [List.getElem?_toArray, List.getElem?_cons_zero]; rfl
    go_simp
    refine (known_any _).mono ?_
    rintro e w4 ⟨rfl, hb4⟩
    refine hK.out _ _ (Ext.trans hH hb4) (fun hH' => ?_)
    clear hK K
    try simp only [Act.put, List.setIfInBounds_toArray, List.set_cons_zero, List.set_cons_succ]
    refine wpAnyH_mono (S' := Ext w4) (fun u hu => Ext.trans hH' hu) ?_
    replace HE : Hid (Ext w w4) := Ext.trans HE.out hb4
    clear hH hH' hb4
    have hH := Ext.refl w4
    refine wpAnyH_take (i := 1) (oi := ?o1b) (v := ?v1b) ?h1b (by kernel_rfl) ?f1b ?r1b (fun _ _ _ h => h) (Or.inl ⟨?w1b, ?y1b⟩) (by assumption) ?t1b
    case h1b => simp only [List.getElem?_toArray, List.getElem?_cons_succ, List.getElem?_cons_zero]; rfl
    case f1b => kernel_rfl
    case r1b => kernel_rfl
    case w1b => rfl
    case y1b => (intro u hu; (go_simp) <;> with_reducible rfl)
    try simp only [Act.put, List.setIfInBounds_toArray, List.set_cons_zero, List.set_cons_succ]
    refine wpAnyH_take (i := 2) (oi := ?o2b) (v := ?v2b) ?h2b (by kernel_rfl) ?f2b ?r2b (fun _ _ _ h => h) (Or.inl ⟨?w2b, ?y2b⟩) (by assumption) ?t2b
    case h2b => simp only [List.getElem?_toArray, List.getElem?_cons_succ, List.getElem?_cons_zero]; rfl
    case f2b => kernel_rfl
    case r2b => kernel_rfl
    case w2b => rfl
    case y2b => (intro u hu; (go_simp) <;> with_reducible rfl)
    try simp only [Act.put, List.setIfInBounds_toArray, List.set_cons_zero, List.set_cons_succ]
    refine wpAnyH_take (i := 5) (oi := ?o5b) (v := ?v5b) ?h5b (by kernel_rfl) ?f5b ?r5b (fun _ _ _ h => h) (Or.inl ⟨?w5b, ?y5b⟩) (by assumption) ?t5b
    case h5b => simp only [List.getElem?_toArray, List.getElem?_cons_succ, List.getElem?_cons_zero]; rfl
    case f5b => kernel_rfl
    case r5b => kernel_rfl
    case w5b => rfl
    case y5b => (intro u hu; (go_simp) <;> with_reducible rfl)
    try simp only [Act.put, List.setIfInBounds_toArray, List.set_cons_zero, List.set_cons_succ]
    refine wpAnyH_ready (rs := [3]) (by kernel_rfl) (by simp) ?_
    refine AllReadyH.cons (o := ?o3b) ?h3b (fun K hK => ?_) AllReadyH.nil
    case h3b => simp only [List.getElem?_toArray, List.getElem?_cons_succ, List.getElem?_cons_zero]; rfl
    go_simp
    refine (put32_g _ _ n0 n1).mono ?_
    rintro e w5 ⟨g5, rfl, hrd5, hb5⟩
    refine hK.out _ _ (Ext.trans hH hb5) (fun hH' => ?_)
    clear hK K
    try simp only [Act.put, List.setIfInBounds_toArray, List.set_cons_zero, List.set_cons_succ]
    refine wpAnyH_mono (S' := Ext w5) (fun u hu => Ext.trans hH' hu) ?_
    replace HE : Hid (Ext w w5) := Ext.trans HE.out hb5
    clear hH hH' hb5
    have hH := Ext.refl w5
    have hs5 : ∀ u, Ext w5 u → (convert 25 9 (.slice (some ⟨g5, 0, none⟩) 4 4)).run Try.prog u = .ok (.string (strOfNums (lay 4 n))) u := fun u hu => str_run (hrd5.below hu) _ rfl
    clear hrd5
    refine wpAnyH_take (i := 4) (oi := ?o4b) (v := ?v4b) ?h4b (by kernel_rfl) ?f4b ?r4b (fun _ _ _ h => h) (Or.inl ⟨?w4b, ?y4b⟩) (by assumption) ?t4b
    case h4b => simp only [List.getElem?_toArray, List.getElem?_cons_succ, List.getElem?_cons_zero]; rfl
    case f4b => kernel_rfl
    case r4b => kernel_rfl
    case w4b => rfl
    case y4b => (intro u hu; (go_simp) <;> with_reducible rfl)
    try simp only [Act.put, List.setIfInBounds_toArray, List.set_cons_zero, List.set_cons_succ]
    clear hs5
    refine wpAnyH_ready (rs := [6]) (by kernel_rfl) (by simp) ?_
    refine AllReadyH.cons (o := ?o6b) ?h6b (fun K hK => ?_) AllReadyH.nil
    case h6b => simp only [List.getElem?_toArray, List.getElem?_cons_succ, List.getElem?_cons_zero]; rfl
    go_simp
    refine (refput32_g _ _ n0 n1).mono ?_
    rintro e w6 ⟨g6, rfl, hrd6, hb6⟩
    refine hK.out _ _ (Ext.trans hH hb6) (fun hH' => ?_)
    clear hK K
    try simp only [Act.put, List.setIfInBounds_toArray, List.set_cons_zero, List.set_cons_succ]
    refine wpAnyH_mono (S' := Ext w6) (fun u hu => Ext.trans hH' hu) ?_
    replace HE : Hid (Ext w w6) := Ext.trans HE.out hb6
    clear hH hH' hb6
    have hH := Ext.refl w6
    have hs6 : ∀ u, Ext w6 u → (convert 25 9 (.slice (some ⟨g6, 0, none⟩) 4 4)).run Try.prog u = .ok (.string (strOfNums (lay 4 n))) u := fun u hu => str_run (hrd6.below hu) _ rfl
    clear hrd6
    refine wpAnyH_take (i := 7) (oi := ?o7b) (v := ?v7b) ?h7b (by kernel_rfl) ?f7b ?r7b (fun _ _ _ h => h) (Or.inl ⟨?w7b, ?y7b⟩) (by assumption) ?t7b
    case h7b => simp only [List.getElem?_toArray, List.getElem?_cons_succ, List.getElem?_cons_zero]; rfl
    case f7b => kernel_rfl
    case r7b => kernel_rfl
    case w7b => rfl
    case y7b => (intro u hu; (go_simp) <;> with_reducible rfl)
    try simp only [Act.put, List.setIfInBounds_toArray, List.set_cons_zero, List.set_cons_succ]
    clear hs6
    refine wpAnyH_take (i := 8) (oi := ?o8b) (v := ?v8b) ?h8b (by kernel_rfl) ?f8b ?r8b (fun _ _ _ h => h) (Or.inl ⟨?w8b, ?y8b⟩) (by assumption) ?t8b
    case h8b => simp only [List.getElem?_toArray, List.getElem?_cons_succ, List.getElem?_cons_zero]; rfl
    case f8b => kernel_rfl
    case r8b => kernel_rfl
    case w8b => rfl
    case y8b => (intro u hu; (go_simp) <;> with_reducible rfl)
    try simp only [Act.put, List.setIfInBounds_toArray, List.set_cons_zero, List.set_cons_succ]
    refine wpAnyH_take (i := 9) (oi := ?o9b) (v := ?v9b) ?h9b (by kernel_rfl) ?f9b ?r9b (fun _ _ _ h => h) (Or.inl ⟨?w9b, ?y9b⟩) (by assumption) ?t9b
    case h9b => simp only [List.getElem?_toArray, List.getElem?_cons_succ, List.getElem?_cons_zero]; rfl
    case f9b => kernel_rfl
    case r9b => kernel_rfl
    case w9b => rfl
    case y9b => (intro u hu; (go_simp) <;> with_reducible rfl)
    try simp only [Act.put, List.setIfInBounds_toArray, List.set_cons_zero, List.set_cons_succ]
    refine wpAnyH_take (i := 10) (oi := ?o10b) (v := ?v10b) ?h10b (by kernel_rfl) ?f10b ?r10b (fun _ _ _ h => h) (Or.inl ⟨?w10b, ?y10b⟩) (by assumption) ?t10b
    case h10b => simp only [List.getElem?_toArray, List.getElem?_cons_succ, List.getElem?_cons_zero]; rfl
    case f10b => kernel_rfl
    case r10b => kernel_rfl
    case w10b => rfl
    case y10b => (intro u hu; (go_simp) <;> with_reducible rfl)
    try simp only [Act.put, List.setIfInBounds_toArray, List.set_cons_zero, List.set_cons_succ]
    refine wpAnyH_take (i := 11) (oi := ?o11b) (v := ?v11b) ?h11b (by kernel_rfl) ?f11b ?r11b (fun _ _ _ h => h) (Or.inl ⟨?w11b, ?y11b⟩) (by assumption) ?t11b
    case h11b => simp only [List.getElem?_toArray, List.getElem?_cons_succ, List.getElem?_cons_zero]; rfl
    case f11b => kernel_rfl
    case r11b => kernel_rfl
    case w11b => rfl
    case y11b => (intro u hu; (go_simp) <;> with_reducible rfl)
    try simp only [Act.put, List.setIfInBounds_toArray, List.set_cons_zero, List.set_cons_succ]
    refine wpAnyH_take (i := 14) (oi := ?o14b) (v := ?v14b) ?h14b (by kernel_rfl) ?f14b ?r14b (fun _ _ _ h => h) (Or.inl ⟨?w14b, ?y14b⟩) (by assumption) ?t14b
    case h14b => simp only [List.getElem?_toArray, List.getElem?_cons_succ, List.getElem?_cons_zero]; rfl
    case f14b => kernel_rfl
    case r14b => kernel_rfl
    case w14b => rfl
    case y14b => (intro u hu; (go_simp) <;> with_reducible rfl)
    try simp only [Act.put, List.setIfInBounds_toArray, List.set_cons_zero, List.set_cons_succ]
    refine wpAnyH_ready (rs := [12]) (by kernel_rfl) (by simp) ?_
    refine AllReadyH.cons (o := ?o12b) ?h12b (fun K hK => ?_) AllReadyH.nil
    case h12b => simp only [List.getElem?_toArray, List.getElem?_cons_succ, List.getElem?_cons_zero]; rfl
    go_simp
    refine (put64_g _ _ m0 m1).mono ?_
    rintro e w7 ⟨g7, rfl, hrd7, hb7⟩
    refine hK.out _ _ (Ext.trans hH hb7) (fun hH' => ?_)
    clear hK K
    try simp only [Act.put, List.setIfInBounds_toArray, List.set_cons_zero, List.set_cons_succ]
    refine wpAnyH_mono (S' := Ext w7) (fun u hu => Ext.trans hH' hu) ?_
    replace HE : Hid (Ext w w7) := Ext.trans HE.out hb7
    clear hH hH' hb7
    have hH := Ext.refl w7
    have hs7 : ∀ u, Ext w7 u → (convert 25 9 (.slice (some ⟨g7, 0, none⟩) 8 8)).run Try.prog u = .ok (.string (strOfNums (lay 8 m))) u := fun u hu => str_run (hrd7.below hu) _ rfl
    clear hrd7
    refine wpAnyH_take (i := 13) (oi := ?o13b) (v := ?v13b) ?h13b (by kernel_rfl) ?f13b ?r13b (fun _ _ _ h => h) (Or.inl ⟨?w13b, ?y13b⟩) (by assumption) ?t13b
    case h13b => simp only [List.getElem?_toArray, List.getElem?_cons_succ, List.getElem?_cons_zero]; rfl
    case f13b => kernel_rfl
    case r13b => kernel_rfl
    case w13b => rfl
    case y13b => (intro u hu; (go_simp) <;> with_reducible rfl)
    try simp only [Act.put, List.setIfInBounds_toArray, List.set_cons_zero, List.set_cons_succ]
    clear hs7
    refine wpAnyH_ready (rs := [15]) (by kernel_rfl) (by simp) ?_
    refine AllReadyH.cons (o := ?o15b) ?h15b (fun K hK => ?_) AllReadyH.nil
    case h15b => simp only [List.getElem?_toArray, List.getElem?_cons_succ, List.getElem?_cons_zero]; rfl
    go_simp
    refine (refput64_any _ _ m0 m1).mono ?_
    rintro e w8 ⟨a8, c8, rfl, hrd8, hb8⟩
    refine hK.out _ _ (Ext.trans hH hb8) (fun hH' => ?_)
    clear hK K
    try simp only [Act.put, List.setIfInBounds_toArray, List.set_cons_zero, List.set_cons_succ]
    refine wpAnyH_mono (S' := Ext w8) (fun u hu => Ext.trans hH' hu) ?_
    replace HE : Hid (Ext w w8) := Ext.trans HE.out hb8
    clear hH hH' hb8
    have hH := Ext.refl w8
    have hs8 : ∀ u, Ext w8 u → (convert 25 9 (.slice a8 8 c8)).run Try.prog u = .ok (.string (strOfNums (lay 8 m))) u := fun u hu => str_run (hrd8.below hu) _ rfl
    clear hrd8
    refine wpAnyH_take (i := 16) (oi := ?o16b) (v := ?v16b) ?h16b (by kernel_rfl) ?f16b ?r16b (fun _ _ _ h => h) (Or.inl ⟨?w16b, ?y16b⟩) (by assumption) ?t16b
    case h16b => simp only [List.getElem?_toArray, List.getElem?_cons_succ, List.getElem?_cons_zero]; rfl
    case f16b => kernel_rfl
    case r16b => kernel_rfl
    case w16b => rfl
    case y16b => (intro u hu; (go_simp) <;> with_reducible rfl)
    try simp only [Act.put, List.setIfInBounds_toArray, List.set_cons_zero, List.set_cons_succ]
    clear hs8
    refine wpAnyH_take (i := 17) (oi := ?o17b) (v := ?v17b) ?h17b (by kernel_rfl) ?f17b ?r17b (fun _ _ _ h => h) (Or.inl ⟨?w17b, ?y17b⟩) (by assumption) ?t17b
    case h17b => simp only [List.getElem?_toArray, List.getElem?_cons_succ, List.getElem?_cons_zero]; rfl
    case f17b => kernel_rfl
    case r17b => kernel_rfl
    case w17b => rfl
    case y17b => (intro u hu; (go_simp) <;> with_reducible rfl)
    try simp only [Act.put, List.setIfInBounds_toArray, List.set_cons_zero, List.set_cons_succ]
    refine wpAnyH_take (i := 18) (oi := ?o18b) (v := ?v18b) ?h18b (by kernel_rfl) ?f18b ?r18b (fun _ _ _ h => h) (Or.inl ⟨?w18b, ?y18b⟩) (by assumption) ?t18b
    case h18b => simp only [List.getElem?_toArray, List.getElem?_cons_succ, List.getElem?_cons_zero]; rfl
    case f18b => kernel_rfl
    case r18b => kernel_rfl
    case w18b => rfl
    case y18b => (intro u hu; (go_simp) <;> with_reducible rfl)
    try simp only [Act.put, List.setIfInBounds_toArray, List.set_cons_zero, List.set_cons_succ]
    refine wpAnyH_take (i := 19) (oi := ?o19b) (v := ?v19b) ?h19b (by kernel_rfl) ?f19b ?r19b (fun _ _ _ h => h) (Or.inl ⟨?w19b, ?y19b⟩) (by assumption) ?t19b
    case h19b => simp only [List.getElem?_toArray, List.getElem?_cons_succ, List.getElem?_cons_zero]; rfl
    case f19b => kernel_rfl
    case r19b => kernel_rfl
    case w19b => rfl
    case y19b => (intro u hu; (go_simp) <;> with_reducible rfl)
    try simp only [Act.put, List.setIfInBounds_toArray, List.set_cons_zero, List.set_cons_succ]
    refine wpAnyH_take (i := 20) (oi := ?o20b) (v := ?v20b) ?h20b (by kernel_rfl) ?f20b ?r20b (fun _ _ _ h => h) (Or.inl ⟨?w20b, ?y20b⟩) (by assumption) ?t20b
    case h20b => simp only [List.getElem?_toArray, List.getElem?_cons_succ, List.getElem?_cons_zero]; rfl
    case f20b => kernel_rfl
    case r20b => kernel_rfl
    case w20b => rfl
    case y20b => (intro u hu; (go_simp) <;> with_reducible rfl)
    try simp only [Act.put, List.setIfInBounds_toArray, List.set_cons_zero, List.set_cons_succ]
    refine wpAnyH_take (i := 21) (oi := ?o21b) (v := ?v21b) ?h21b (by kernel_rfl) ?f21b ?r21b (fun _ _ _ h => h) (Or.inl ⟨?w21b, ?y21b⟩) (by assumption) ?t21b
    case h21b => simp only [List.getElem?_toArray, List.getElem?_cons_succ, List.getElem?_cons_zero]; rfl
    case f21b => kernel_rfl
    case r21b => kernel_rfl
    case w21b => rfl
    case y21b => (intro u hu; (go_simp) <;> with_reducible rfl)
    try simp only [Act.put, List.setIfInBounds_toArray, List.set_cons_zero, List.set_cons_succ]
    refine wpAnyH_take (i := 22) (oi := ?o22b) (v := ?v22b) ?h22b (by kernel_rfl) ?f22b ?r22b (fun _ _ _ h => h) (Or.inl ⟨?w22b, ?y22b⟩) (by assumption) ?t22b
    case h22b => simp only [List.getElem?_toArray, List.getElem?_cons_succ, List.getElem?_cons_zero]; rfl
    case f22b => kernel_rfl
    case r22b => kernel_rfl
    case w22b => rfl
    case y22b => (intro u hu; (go_simp) <;> with_reducible rfl)
    try simp only [Act.put, List.setIfInBounds_toArray, List.set_cons_zero, List.set_cons_succ]
    refine wpAnyH_take (i := 23) (oi := ?o23b) (v := ?v23b) ?h23b (by kernel_rfl) ?f23b ?r23b (fun _ _ _ h => h) (Or.inl ⟨?w23b, ?y23b⟩) (by assumption) ?t23b
    case h23b => simp only [List.getElem?_toArray, List.getElem?_cons_succ, List.getElem?_cons_zero]; rfl
    case f23b => kernel_rfl
    case r23b => kernel_rfl
    case w23b => rfl
    case y23b => (intro u hu; (go_simp) <;> with_reducible rfl)
    try simp only [Act.put, List.setIfInBounds_toArray, List.set_cons_zero, List.set_cons_succ]
    refine wpAnyH_take (i := 24) (oi := ?o24b) (v := ?v24b) ?h24b (by kernel_rfl) ?f24b ?r24b (fun _ _ _ h => h) (Or.inl ⟨?w24b, ?y24b⟩) (by assumption) ?t24b
    case h24b => simp only [List.getElem?_toArray, List.getElem?_cons_succ, List.getElem?_cons_zero]; rfl
    case f24b => kernel_rfl
    case r24b => kernel_rfl
    case w24b => rfl
    case y24b => (intro u hu; (go_simp) <;> with_reducible rfl)
    try simp only [Act.put, List.setIfInBounds_toArray, List.set_cons_zero, List.set_cons_succ]
    refine wpAnyH_take (i := 25) (oi := ?o25b) (v := ?v25b) ?h25b (by kernel_rfl) ?f25b ?r25b (fun _ _ _ h => h) (Or.inl ⟨?w25b, ?y25b⟩) (by assumption) ?t25b
    case h25b => simp only [List.getElem?_toArray, List.getElem?_cons_succ, List.getElem?_cons_zero]; rfl
    case f25b => kernel_rfl
    case r25b => kernel_rfl
    case w25b => rfl
    case y25b => (intro u hu; (go_simp) <;> with_reducible rfl)
    try simp only [Act.put, List.setIfInBounds_toArray, List.set_cons_zero, List.set_cons_succ]
    refine wpAnyH_take (i := 26) (oi := ?o26b) (v := ?v26b) ?h26b (by kernel_rfl) ?f26b ?r26b (fun _ _ _ h => h) (Or.inl ⟨?w26b, ?y26b⟩) (by assumption) ?t26b
    case h26b => simp only [List.getElem?_toArray, List.getElem?_cons_succ, List.getElem?_cons_zero]; rfl
    case f26b => kernel_rfl
    case r26b => kernel_rfl
    case w26b => rfl
    case y26b => (intro u hu; (go_simp) <;> with_reducible rfl)
    try simp only [Act.put, List.setIfInBounds_toArray, List.set_cons_zero, List.set_cons_succ]
    refine wpAnyH_take (i := 27) (oi := ?o27b) (v := ?v27b) ?h27b (by kernel_rfl) ?f27b ?r27b (fun _ _ _ h => h) (Or.inl ⟨?w27b, ?y27b⟩) (by assumption) ?t27b
    case h27b => simp only [List.getElem?_toArray, List.getElem?_cons_succ, List.getElem?_cons_zero]; rfl
    case f27b => kernel_rfl
    case r27b => kernel_rfl
    case w27b => rfl
    case y27b => (intro u hu; (go_simp) <;> with_reducible rfl)
    try simp only [Act.put, List.setIfInBounds_toArray, List.set_cons_zero, List.set_cons_succ]
    refine wpAnyH_take (i := 28) (oi := ?o28b) (v := ?v28b) ?h28b (by kernel_rfl) ?f28b ?r28b (fun _ _ _ h => h) (Or.inl ⟨?w28b, ?y28b⟩) (by assumption) ?t28b
    case h28b => simp only [List.getElem?_toArray, List.getElem?_cons_succ, List.getElem?_cons_zero]; rfl
    case f28b => kernel_rfl
    case r28b => kernel_rfl
    case w28b => rfl
    case y28b => (intro u hu; (go_simp) <;> with_reducible rfl)
    try simp only [Act.put, List.setIfInBounds_toArray, List.set_cons_zero, List.set_cons_succ]
    refine wpAnyH_take (i := 29) (oi := ?o29b) (v := ?v29b) ?h29b (by kernel_rfl) ?f29b ?r29b (fun _ _ _ h => h) (Or.inl ⟨?w29b, ?y29b⟩) (by assumption) ?t29b
    case h29b => simp only [List.getElem?_toArray, List.getElem?_cons_succ, List.getElem?_cons_zero]; rfl
    case f29b => kernel_rfl
    case r29b => kernel_rfl
    case w29b => rfl
    case y29b => (intro u hu; (go_simp) <;> with_reducible rfl)
    try simp only [Act.put, List.setIfInBounds_toArray, List.set_cons_zero, List.set_cons_succ]
    refine wpAnyH_take (i := 30) (oi := ?o30b) (v := ?v30b) ?h30b (by kernel_rfl) ?f30b ?r30b (fun _ _ _ h => h) (Or.inl ⟨?w30b, ?y30b⟩) (by assumption) ?t30b
    case h30b => simp only [List.getElem?_toArray, List.getElem?_cons_succ, List.getElem?_cons_zero]; rfl
    case f30b => kernel_rfl
    case r30b => kernel_rfl
    case w30b => rfl
    case y30b => (intro u hu; (go_simp) <;> with_reducible rfl)
    try simp only [Act.put, List.setIfInBounds_toArray, List.set_cons_zero, List.set_cons_succ]
    refine wpAnyH_take (i := 31) (oi := ?o31b) (v := ?v31b) ?h31b (by kernel_rfl) ?f31b ?r31b (fun _ _ _ h => h) (Or.inl ⟨?w31b, ?y31b⟩) (by assumption) ?t31b
    case h31b => simp only [List.getElem?_toArray, List.getElem?_cons_succ, List.getElem?_cons_zero]; rfl
    case f31b => kernel_rfl
    case r31b => kernel_rfl
    case w31b => rfl
    case y31b => (intro u hu; (go_simp) <;> with_reducible rfl)
    try simp only [Act.put, List.setIfInBounds_toArray, List.set_cons_zero, List.set_cons_succ]
    refine wpAnyH_take (i := 32) (oi := ?o32b) (v := ?v32b) ?h32b (by kernel_rfl) ?f32b ?r32b (fun _ _ _ h => h) (Or.inl ⟨?w32b, ?y32b⟩) (by assumption) ?t32b
    case h32b => simp only [List.getElem?_toArray, List.getElem?_cons_succ, List.getElem?_cons_zero]; rfl
    case f32b => kernel_rfl
    case r32b => kernel_rfl
    case w32b => rfl
    case y32b => (intro u hu; (go_simp) <;> with_reducible rfl)
    try simp only [Act.put, List.setIfInBounds_toArray, List.set_cons_zero, List.set_cons_succ]
    refine wpAnyH_take (i := 33) (oi := ?o33b) (v := ?v33b) ?h33b (by kernel_rfl) ?f33b ?r33b (fun _ _ _ h => h) (Or.inl ⟨?w33b, ?y33b⟩) (by assumption) ?t33b
    case h33b => simp only [List.getElem?_toArray, List.getElem?_cons_succ, List.getElem?_cons_zero]; rfl
    case f33b => kernel_rfl
    case r33b => kernel_rfl
    case w33b => rfl
    case y33b => (intro u hu; (go_simp) <;> with_reducible rfl)
    try simp only [Act.put, List.setIfInBounds_toArray, List.set_cons_zero, List.set_cons_succ]
    refine wpAnyH_take (i := 34) (oi := ?o34b) (v := ?v34b) ?h34b (by kernel_rfl) ?f34b ?r34b (fun _ _ _ h => h) (Or.inl ⟨?w34b, ?y34b⟩) (by assumption) ?t34b
    case h34b => simp only [List.getElem?_toArray, List.getElem?_cons_succ, List.getElem?_cons_zero]; rfl
    case f34b => kernel_rfl
    case r34b => kernel_rfl
    case w34b => rfl
    case y34b => (intro u hu; (go_simp) <;> with_reducible rfl)
    try simp only [Act.put, List.setIfInBounds_toArray, List.set_cons_zero, List.set_cons_succ]
    refine wpAnyH_take (i := 35) (oi := ?o35b) (v := ?v35b) ?h35b (by kernel_rfl) ?f35b ?r35b (fun _ _ _ h => h) (Or.inl ⟨?w35b, ?y35b⟩) (by assumption) ?t35b
    case h35b => simp only [List.getElem?_toArray, List.getElem?_cons_succ, List.getElem?_cons_zero]; rfl
    case f35b => kernel_rfl
    case r35b => kernel_rfl
    case w35b => rfl
    case y35b => (intro u hu; (go_simp) <;> with_reducible rfl)
    try simp only [Act.put, List.setIfInBounds_toArray, List.set_cons_zero, List.set_cons_succ]
    refine wpAnyH_take (i := 36) (oi := ?o36b) (v := ?v36b) ?h36b (by kernel_rfl) ?f36b ?r36b (fun _ _ _ h => h) (Or.inl ⟨?w36b, ?y36b⟩) (by assumption) ?t36b
    case h36b => simp only [List.getElem?_toArray, List.getElem?_cons_succ, List.getElem?_cons_zero]; rfl
    case f36b => kernel_rfl
    case r36b => kernel_rfl
    case w36b => rfl
    case y36b => (intro u hu; (go_simp) <;> with_reducible rfl)
    try simp only [Act.put, List.setIfInBounds_toArray, List.set_cons_zero, List.set_cons_succ]
    refine wpAnyH_take (i := 37) (oi := ?o37b) (v := ?v37b) ?h37b (by kernel_rfl) ?f37b ?r37b (fun _ _ _ h => h) (Or.inl ⟨?w37b, ?y37b⟩) (by assumption) ?t37b
    case h37b => simp only [List.getElem?_toArray, List.getElem?_cons_succ, List.getElem?_cons_zero]; rfl
    case f37b => kernel_rfl
    case r37b => kernel_rfl
    case w37b => rfl
    case y37b => (intro u hu; (go_simp) <;> with_reducible rfl)
    try simp only [Act.put, List.setIfInBounds_toArray, List.set_cons_zero, List.set_cons_succ]
    refine wpAnyH_take (i := 38) (oi := ?o38b) (v := ?v38b) ?h38b (by kernel_rfl) ?f38b ?r38b (fun _ _ _ h => h) (Or.inl ⟨?w38b, ?y38b⟩) (by assumption) ?t38b
    case h38b => simp only [List.getElem?_toArray, List.getElem?_cons_succ, List.getElem?_cons_zero]; rfl
    case f38b => kernel_rfl
    case r38b => kernel_rfl
    case w38b => rfl
    case y38b => (intro u hu; (go_simp) <;> with_reducible rfl)
    try simp only [Act.put, List.setIfInBounds_toArray, List.set_cons_zero, List.set_cons_succ]
    refine wpAnyH_take (i := 39) (oi := ?o39b) (v := ?v39b) ?h39b (by kernel_rfl) ?f39b ?r39b (fun _ _ _ h => h) (Or.inl ⟨?w39b, ?y39b⟩) (by assumption) ?t39b
    case h39b => simp only [List.getElem?_toArray, List.getElem?_cons_succ, List.getElem?_cons_zero]; rfl
    case f39b => kernel_rfl
    case r39b => kernel_rfl
    case w39b => rfl
    case y39b => (intro u hu; (go_simp) <;> with_reducible rfl)
    try simp only [Act.put, List.setIfInBounds_toArray, List.set_cons_zero, List.set_cons_succ]
    refine wpAnyH_take (i := 40) (oi := ?o40b) (v := ?v40b) ?h40b (by kernel_rfl) ?f40b ?r40b (fun _ _ _ h => h) (Or.inl ⟨?w40b, ?y40b⟩) (by assumption) ?t40b
    case h40b => simp only [List.getElem?_toArray, List.getElem?_cons_succ, List.getElem?_cons_zero]; rfl
    case f40b => kernel_rfl
    case r40b => kernel_rfl
    case w40b => rfl
    case y40b => (intro u hu; (go_simp) <;> with_reducible rfl)
    try simp only [Act.put, List.setIfInBounds_toArray, List.set_cons_zero, List.set_cons_succ]
    refine wpAnyH_take (i := 41) (oi := ?o41b) (v := ?v41b) ?h41b (by kernel_rfl) ?f41b ?r41b (fun _ _ _ h => h) (Or.inl ⟨?w41b, ?y41b⟩) (by assumption) ?t41b
    case h41b => simp only [List.getElem?_toArray, List.getElem?_cons_succ, List.getElem?_cons_zero]; rfl
    case f41b => kernel_rfl
    case r41b => kernel_rfl
    case w41b => rfl
    case y41b => (intro u hu; (go_simp) <;> with_reducible rfl)
    try simp only [Act.put, List.setIfInBounds_toArray, List.set_cons_zero, List.set_cons_succ]
    refine wpAnyH_take (i := 42) (oi := ?o42b) (v := ?v42b) ?h42b (by kernel_rfl) ?f42b ?r42b (fun _ _ _ h => h) (Or.inl ⟨?w42b, ?y42b⟩) (by assumption) ?t42b
    case h42b => simp only [List.getElem?_toArray, List.getElem?_cons_succ, List.getElem?_cons_zero]; rfl
    case f42b => kernel_rfl
    case r42b => kernel_rfl
    case w42b => rfl
    case y42b => (intro u hu; (go_simp) <;> with_reducible rfl)
    try simp only [Act.put, List.setIfInBounds_toArray, List.set_cons_zero, List.set_cons_succ]
    refine wpAnyH_take (i := 43) (oi := ?o43b) (v := ?v43b) ?h43b (by kernel_rfl) ?f43b ?r43b (fun _ _ _ h => h) (Or.inl ⟨?w43b, ?y43b⟩) (by assumption) ?t43b
    case h43b => simp only [List.getElem?_toArray, List.getElem?_cons_succ, List.getElem?_cons_zero]; rfl
    case f43b => kernel_rfl
    case r43b => kernel_rfl
    case w43b => rfl
    case y43b => (intro u hu; (go_simp) <;> with_reducible rfl)
    try simp only [Act.put, List.setIfInBounds_toArray, List.set_cons_zero, List.set_cons_succ]
    refine wpAnyH_take (i := 44) (oi := ?o44b) (v := ?v44b) ?h44b (by kernel_rfl) ?f44b ?r44b (fun _ _ _ h => h) (Or.inl ⟨?w44b, ?y44b⟩) (by assumption) ?t44b
    case h44b => simp only [List.getElem?_toArray, List.getElem?_cons_succ, List.getElem?_cons_zero]; rfl
    case f44b => kernel_rfl
    case r44b => kernel_rfl
    case w44b => rfl
    case y44b => (intro u hu; (go_simp) <;> with_reducible rfl)
    try simp only [Act.put, List.setIfInBounds_toArray, List.set_cons_zero, List.set_cons_succ]
    refine wpAnyH_take (i := 45) (oi := ?o45b) (v := ?v45b) ?h45b (by kernel_rfl) ?f45b ?r45b (fun _ _ _ h => h) (Or.inl ⟨?w45b, ?y45b⟩) (by assumption) ?t45b
    case h45b => simp only [List.getElem?_toArray, List.getElem?_cons_succ, List.getElem?_cons_zero]; rfl
    case f45b => kernel_rfl
    case r45b => kernel_rfl
    case w45b => rfl
    case y45b => (intro u hu; (go_simp) <;> with_reducible rfl)
    try simp only [Act.put, List.setIfInBounds_toArray, List.set_cons_zero, List.set_cons_succ]
    refine wpAnyH_take (i := 46) (oi := ?o46b) (v := ?v46b) ?h46b (by kernel_rfl) ?f46b ?r46b (fun _ _ _ h => h) (Or.inl ⟨?w46b, ?y46b⟩) (by assumption) ?t46b
    case h46b => simp only [List.getElem?_toArray, List.getElem?_cons_succ, List.getElem?_cons_zero]; rfl
    case f46b => kernel_rfl
    case r46b => kernel_rfl
    case w46b => rfl
    case y46b => (intro u hu; (go_simp) <;> with_reducible rfl)
    try simp only [Act.put, List.setIfInBounds_toArray, List.set_cons_zero, List.set_cons_succ]
    refine wpAnyH_take (i := 47) (oi := ?o47b) (v := ?v47b) ?h47b (by kernel_rfl) ?f47b ?r47b (fun _ _ _ h => h) (Or.inl ⟨?w47b, ?y47b⟩) (by assumption) ?t47b
    case h47b => simp only [List.getElem?_toArray, List.getElem?_cons_succ, List.getElem?_cons_zero]; rfl
    case f47b => kernel_rfl
    case r47b => kernel_rfl
    case w47b => rfl
    case y47b => (intro u hu; (go_simp) <;> with_reducible rfl)
    try simp only [Act.put, List.setIfInBounds_toArray, List.set_cons_zero, List.set_cons_succ]
    refine wpAnyH_done (by kernel_rfl) ?_ _
    refine NoPanic.normal ?_
    go_wp2
    go_ret
    refine ⟨ret_bool (x := !decide (4 ≤ (len : Int))) ?_, HE.out⟩
    simp
    omega

set_option maxRecDepth 100000 in
theorem octetNumbers_lifted (os : Os) (started : os.Started) (H : Type) (enc : TypeId × Value → H) :
    ReturnsInHanded {} Try.checked os 4 .any (Rows.octetNumbersSpec.pre6 enc Try.prog Try.f4 Rows.octetNumbersRow.domain false) (Rows.octetNumbersSpec.post enc Try.prog Try.f4 false true false false) := by
  refine returnsInHanded_of_change_sized (C := Try.checked) own started (by kernel_rfl) Try.func4
    (ChangeSpec.witness6 (enc := enc) (C := Try.checked) false ⟨#[], #[.int .u32 0, .int .u64 0, .slice none 0 0], []⟩ 8 (by kernel_rfl) (by kernel_rfl) (by kernel_rfl) (by kernel_rfl)) ?_
  intro W base args ds gs before hval0 hW hcnd hsz0 _
  have hval : ∀ (j : Nat) t v, Try.f4.params[j]? = some t → args[j]? = some v → Value.okWide Try.prog W .any base t v := hval0
  have hsz : (DataW.weightsEach Try.prog (Try.f4.params.toList ++ Rows.octetNumbersSpec.plain.varTypes Try.prog) (ds ++ gs)).all (· ≤ reachBytes) = true := hsz0
  have hW' := hW
  obtain ⟨p, q, hA0, hV, rfl, hfz, hnd⟩ := hW
  have hA : DataW.TrodAll enc Try.prog W 0 (fun _ => true) true Try.f4.params.toList args.toList ds p := hA0
  rw [Try.params4] at hA hval hsz
  obtain ⟨v0, vs0, d0, ds0, p0, q0, hargs, rfl, rfl, h0, r0⟩ := trodAll_cons hA
  obtain ⟨v1, vs1, d1, ds1, p1, q1, rfl, rfl, rfl, h1, r1⟩ := trodAll_cons r0
  obtain ⟨v2, vs2, d2, ds2, p2, q2, rfl, rfl, rfl, h2, r2⟩ := trodAll_cons r1
  obtain ⟨rfl, rfl, rfl⟩ := trodAll_nil r2
  obtain rfl : args = #[v0, v1, v2] := by cases args; simp_all
  obtain ⟨rfl, rfl⟩ := trodVars_none hV
  obtain ⟨a0, rfl, rfl, rfl, w0⟩ := open_int Try.underlying29 (hval 0 29 v0 rfl rfl) h0
  obtain ⟨a1, rfl, rfl, rfl, w1⟩ := open_int Try.underlying22 (hval 1 22 v1 rfl rfl) h1
  obtain ⟨a2, len2, cap2, rfl⟩ := okWide_slice Try.underlying25 (hval 2 25 v2 rfl rfl)
  have lt2 : ∀ x ∈ p2, x.block < W.heap.size := by obtain ⟨m, hm⟩ := h2; exact DataW.trod_lt m _ _ _ hm
  obtain ⟨l, hl, hd⟩ := open_bytes h2
  have hlen := reach_bytes hsz 2 rfl rfl hd
  have b0 := bounds_u32 w0
  have b1 := bounds_u64 w1
  clear hA0 hval0
  refine (octetNumbers_walk a0 a1 a2 len2 cap2 l W (by omega) (by omega) (by omega) (by omega) hl hlen).mono fun e W' ⟨he, bel⟩ => ?_
  subst he
  exact ⟨_, rfl, _, _, _, [], _, [], hW', trodAll_mk1 (shut_bool Try.underlying4 _), (trodAll_cons_mk (shut_int Try.underlying29 w0) (trodAll_cons_mk (shut_int Try.underlying22 w1) (trodAll_cons_mk (Below.trod laidOut (by kernel_rfl) (of_decide_eq_true (by kernel_rfl)) h2 bel lt2) trodAll_mk0))), rfl, bel.frame _, fun h => by cases h⟩

/-- The statement. -/
theorem octetNumbers_holds : Rows.OctetNumbersSaid :=
  OpenClaim.holds_of_wide 4 Try.f4 rfl rfl rfl rfl rfl rfl rfl ⟨rfl, rfl, rfl, rfl, rfl⟩ rfl rfl rfl rfl rfl (by kernel_rfl) Try.func4 (by kernel_rfl)
    (of_decide_eq_true (by kernel_rfl)) (by unfold Func.isWrapper; first | (rw [if_pos (by decide +kernel)]; kernel_rfl) | (rw [if_neg (by decide +kernel)]; exact ⟨rfl, rfl⟩))
    (fun os started H enc _ => octetNumbers_lifted os started H enc)
#print axioms octetNumbers_holds
end Go.Proofs.Ytdndgjacpnjjaaa
