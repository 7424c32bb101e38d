/-
  OctetXors where b is not a copy of a and is shorter than a: it returns true. No statement of the seat is proved here.
-/
import Derived.Test.YtdndgjacpnjjaaaOwn
namespace Go.Proofs.Ytdndgjacpnjjaaa
open Go.RowKit

set_option maxHeartbeats 8000000 in
theorem octetXors_a (a0 : Option Addr) (la ca : Nat) (A : List Int) (b0 : Option Addr) (lb cb : Nat) (B : List Int) (wb : World) (HA : Hid (Rd wb a0 la ca A)) (HB : Hid (Rd wb b0 lb cb B)) (ma : la ≤ 140737488351232) (mb : lb ≤ 140737488351232) (hmin : lb < la) :
    Calls Try.prog 5 #[.slice a0 la ca, .slice b0 lb cb, .bool false] wb fun e w' => e = .returned (.bool true) ∧ Below wb.heap.size wb w' := by
  go_enter Try.func5, Try.ntmps5
  go_wp2_with fail
  refine (few_all _ _ _ A _ HA.out ma).mono ?_
  rintro e wc ⟨a2, c2, rfl, hrc, hbc⟩
  have RC : Hid (Rd wc a2 la c2 A) := hrc
  have EC : Hid (Ext wb wc) := hbc
  clear hrc hbc
  go_wp2_with fail
  refine (xor_o _ _ _ A _ _ _ B _ (HA.out.below EC.out) (HB.out.below EC.out) (by omega) (by omega)).mono ?_
  rintro e wx ⟨gx, mx, rfl, hmx, hox, hrx, hbx⟩
  have OX : Hid (OwnB wc.heap.size wx gx mx) := hox
  have RX0 : Hid (Rd wx (some ⟨gx, 0, none⟩) mx mx (xorL A B)) := hrx
  have EX : Hid (Ext wc wx) := hbx
  have emx : mx = lb := by have := hmx.out; omega
  clear hox hrx hbx
  have HMX : Hid (lb = min la lb) := by unfold Hid; omega
  clear hmx
  rw [emx]
  replace OX : Hid (OwnB wc.heap.size wx gx lb) := by unfold Hid; rw [← emx]; exact OX.out
  replace RX0 : Hid (Rd wx (some ⟨gx, 0, none⟩) lb lb (xorL A B)) := by unfold Hid; have := RX0.out; rwa [emx] at this
  clear emx mx
  go_wp2_with fail
  refine (xor_o _ _ _ (xorL A B) _ _ _ B _ RX0.out ((HB.out.below EC.out).below EX.out) (by omega) (by omega)).mono ?_
  rintro e wy ⟨gy, my, rfl, hmy, hoy, hry, hby⟩
  have RY0 : Hid (Rd wy (some ⟨gy, 0, none⟩) my my (A.take lb)) := by
    unfold Hid
    have e1 := xorL_back HA.out.byt HB.out.byt
    rw [HA.out.hlen, HB.out.hlen, ← HMX.out] at e1
    rw [← e1]
    exact hry
  have EY : Hid (Ext wx wy) := hby
  clear hoy hry hby hmy
  go_wp2_with fail
  have AJ : Hid (Rd wy a0 la ca A) := ((HA.out.below EC.out).below EX.out).below EY.out
  have BJ : Hid (Rd wy b0 lb cb B) := ((HB.out.below EC.out).below EX.out).below EY.out
  refine (join_o _ _ _ [A, B] _ (RdL.two wy _ _ _ A _ _ _ B 25 AJ.out BJ.out) (by decide) (by have h1 := HA.out.hlen; have h2 := HB.out.hlen; simp; omega)).mono ?_
  rintro e wj ⟨gj, mj, rfl, hmj, hoj, hrj, hbj⟩
  have OJ : Hid (OwnB wy.heap.size wj gj mj) := by
    obtain ⟨zs, hz, ho⟩ := hoj
    exact ⟨zs, hz, owns_base ho (by simp)⟩
  have RJ0 : Hid (Rd wj (some ⟨gj, 0, none⟩) mj mj (A ++ B)) := by
    unfold Hid
    have e1 : [A, B].flatten = A ++ B := by simp
    rw [← e1]
    exact hrj
  have EJ : Hid (Ext wy wj) := ((Ext.refl wy).trans ((Below.refl _ _).alloc (Nat.le_refl _) _)).trans hbj
  have gmj : la ≤ mj := by have h1 := HA.out.hlen; have := hmj.out; simp at this; omega
  have gmj2 : mj ≤ 281474976710656 := by have h1 := HA.out.hlen; have h2 := HB.out.hlen; have := hmj.out; simp at this; omega
  clear hoj hrj hbj hmj
  go_wp2_with fail
  refine (clone_g _ _ _ A _ (AJ.out.below EJ.out) (by omega)).mono ?_
  rintro e wk ⟨gk, rfl, hok, hrk, hbk⟩
  have OK : Hid (OwnB wj.heap.size wk gk la) := hok
  have RK : Hid (Rd wk (some ⟨gk, 0, none⟩) la la A) := hrk
  have EK : Hid (Ext wj wk) := hbk
  clear hok hrk hbk
  have RA : Hid (Rd wk a0 la ca A) := (AJ.out.below EJ.out).below EK.out
  have RB : Hid (Rd wk b0 lb cb B) := (BJ.out.below EJ.out).below EK.out
  have RX : Hid (Rd wk (some ⟨gx, 0, none⟩) lb lb (xorL A B)) := ((RX0.out.below EY.out).below EJ.out).below EK.out
  have RY : Hid (Rd wk (some ⟨gy, 0, none⟩) my my (A.take lb)) := (RY0.out.below EJ.out).below EK.out
  have RAN : Hid (Rd wk a0 lb ca (A.take lb)) := RA.out.cut lb (by omega)
  have RJ : Hid (Rd wk (some ⟨gj, 0, none⟩) mj mj (A ++ B)) := RJ0.out.below EK.out
  have EKC : Hid (Ext wc wk) := ((EX.out.trans EY.out).trans EJ.out).trans EK.out
  clear RX0 RY0 RJ0 AJ BJ
  go_wp2_with fail
  have hq : ((strOfNums A).toList == (strOfNums B).toList) = decide (A = B) := str_eq' HA.out.byt HB.out.byt
  have hap := str_app A B
  have hcut : lb ≤ ca := by have := HA.out.hle; omega
  have hadd : (strOfNums A).size + (strOfNums B).size ≤ 9223372036854775807 := by have h1 := HA.out.hlen; have h2 := HB.out.hlen; rw [strOfNums_size, strOfNums_size]; omega
  refine wp_region_noPanic ?_
  refine wp_region_held_drew (S := Ext wk) (by kernel_rfl) (Ext.refl _).drew (fun hH => ?_)
  have HE : Hid (Ext wk wk.drew) := (Ext.refl _).drew
  refine wpAnyH_ready (rs := [0]) (by kernel_rfl) (by simp) ?_
  refine AllReadyH.cons (o := ?o0) ?h0 (fun K hK => ?_) AllReadyH.nil
  case h0 => simp only [List.getElem?_toArray, List.getElem?_cons_zero]; rfl
  go_simp
  refine (known_any _).mono ?_
  rintro e w11 ⟨rfl, hb11⟩
  refine hK.out _ _ (Ext.trans hH hb11) (fun hH' => ?_)
  clear hK K
  refine wpAnyH_mono (S' := Ext w11) (fun u hu => Ext.trans hH' hu) ?_
  replace HE : Hid (Ext wk w11) := Ext.trans HE.out hb11
  clear hH hH' hb11
  have hH := Ext.refl w11
  refine wpAnyH_take (i := 1) (oi := ?o1) (v := ?v1) ?h1 (by kernel_rfl) ?f1 ?r1 (fun _ _ _ h => h) (Or.inl ⟨?w1, ?y1⟩) (by assumption) ?t1
  case h1 => simp only [List.getElem?_toArray, List.getElem?_cons_succ, List.getElem?_cons_zero]; rfl
  case f1 => kernel_rfl
  case r1 => kernel_rfl
  case w1 => rfl
  case y1 => (intro u hu; (go_simp) <;> with_reducible rfl)
  try simp only [Act.put, List.setIfInBounds_toArray, List.set_cons_zero, List.set_cons_succ]
  refine wpAnyH_take (i := 2) (oi := ?o2) (v := ?v2) ?h2 (by kernel_rfl) ?f2 ?r2 (fun _ _ _ h => h) (Or.inl ⟨?w2, ?y2⟩) (by assumption) ?t2
  case h2 => simp only [List.getElem?_toArray, List.getElem?_cons_succ, List.getElem?_cons_zero]; rfl
  case f2 => kernel_rfl
  case r2 => kernel_rfl
  case w2 => rfl
  case y2 => (intro u hu; (go_simp) <;> with_reducible rfl)
  try simp only [Act.put, List.setIfInBounds_toArray, List.set_cons_zero, List.set_cons_succ]
  refine wpAnyH_take (i := 3) (oi := ?o3) (v := ?v3) ?h3 (by kernel_rfl) ?f3 ?r3 (fun _ _ _ h => h) (Or.inl ⟨?w3, ?y3⟩) (by assumption) ?t3
  case h3 => simp only [List.getElem?_toArray, List.getElem?_cons_succ, List.getElem?_cons_zero]; rfl
  case f3 => kernel_rfl
  case r3 => kernel_rfl
  case w3 => rfl
  case y3 => (intro u hu; (go_simp) <;> with_reducible rfl)
  try simp only [Act.put, List.setIfInBounds_toArray, List.set_cons_zero, List.set_cons_succ]
  refine wpAnyH_take (i := 4) (oi := ?o4) (v := ?v4) ?h4 (by kernel_rfl) ?f4 ?r4 (fun _ _ _ h => h) (Or.inl ⟨?w4, ?y4⟩) (by assumption) ?t4
  case h4 => simp only [List.getElem?_toArray, List.getElem?_cons_succ, List.getElem?_cons_zero]; rfl
  case f4 => kernel_rfl
  case r4 => kernel_rfl
  case w4 => rfl
  case y4 => (intro u hu; (have hs := str_run ((RX.out.below HE.out).below hu) _ rfl; go_simp) <;> with_reducible rfl)
  try simp only [Act.put, List.setIfInBounds_toArray, List.set_cons_zero, List.set_cons_succ]
  refine wpAnyH_take (i := 5) (oi := ?o5) (v := ?v5) ?h5 (by kernel_rfl) ?f5 ?r5 (fun _ _ _ h => h) (Or.inl ⟨?w5, ?y5⟩) (by assumption) ?t5
  case h5 => simp only [List.getElem?_toArray, List.getElem?_cons_succ, List.getElem?_cons_zero]; rfl
  case f5 => kernel_rfl
  case r5 => kernel_rfl
  case w5 => rfl
  case y5 => (intro u hu; (go_simp) <;> with_reducible rfl)
  try simp only [Act.put, List.setIfInBounds_toArray, List.set_cons_zero, List.set_cons_succ]
  refine wpAnyH_take (i := 6) (oi := ?o6) (v := ?v6) ?h6 (by kernel_rfl) ?f6 ?r6 (fun _ _ _ h => h) (Or.inl ⟨?w6, ?y6⟩) (by assumption) ?t6
  case h6 => simp only [List.getElem?_toArray, List.getElem?_cons_succ, List.getElem?_cons_zero]; rfl
  case f6 => kernel_rfl
  case r6 => kernel_rfl
  case w6 => rfl
  case y6 => (intro u hu; (go_simp) <;> with_reducible rfl)
  try simp only [Act.put, List.setIfInBounds_toArray, List.set_cons_zero, List.set_cons_succ]
  refine wpAnyH_ready (rs := [7]) (by kernel_rfl) (by simp) ?_
  refine AllReadyH.cons (o := ?o7) ?h7 (fun K hK => ?_) AllReadyH.nil
  case h7 => simp only [List.getElem?_toArray, List.getElem?_cons_succ, List.getElem?_cons_zero]; rfl
  go_simp
  refine (refxor_g _ _ _ A _ _ _ B _ ((RA.out.below HE.out)) ((RB.out.below HE.out)) ma mb).mono ?_
  rintro e w12 ⟨a12, m12, c12, rfl, hrd12, hb12⟩
  refine hK.out _ _ (Ext.trans hH hb12) (fun hH' => ?_)
  clear hK K
  refine wpAnyH_mono (S' := Ext w12) (fun u hu => Ext.trans hH' hu) ?_
  replace HE : Hid (Ext wk w12) := Ext.trans HE.out hb12
  clear hH hH' hb12
  have hH := Ext.refl w12
  have R12 : Hid (Rd w12 a12 m12 c12 (xorL A B)) := hrd12
  clear hrd12
  refine wpAnyH_take (i := 8) (oi := ?o8) (v := ?v8) ?h8 (by kernel_rfl) ?f8 ?r8 (fun _ _ _ h => h) (Or.inl ⟨?w8, ?y8⟩) (by assumption) ?t8
  case h8 => simp only [List.getElem?_toArray, List.getElem?_cons_succ, List.getElem?_cons_zero]; rfl
  case f8 => kernel_rfl
  case r8 => kernel_rfl
  case w8 => rfl
  case y8 => (intro u hu; (have hs := str_run (R12.out.below hu) _ rfl; go_simp) <;> with_reducible rfl)
  try simp only [Act.put, List.setIfInBounds_toArray, List.set_cons_zero, List.set_cons_succ]
  refine wpAnyH_take (i := 9) (oi := ?o9) (v := ?v9) ?h9 (by kernel_rfl) ?f9 ?r9 (fun _ _ _ h => h) (Or.inl ⟨?w9, ?y9⟩) (by assumption) ?t9
  case h9 => simp only [List.getElem?_toArray, List.getElem?_cons_succ, List.getElem?_cons_zero]; rfl
  case f9 => kernel_rfl
  case r9 => kernel_rfl
  case w9 => rfl
  case y9 => (intro u hu; (go_simp) <;> with_reducible rfl)
  try simp only [Act.put, List.setIfInBounds_toArray, List.set_cons_zero, List.set_cons_succ]
  refine wpAnyH_take (i := 10) (oi := ?o10) (v := ?v10) ?h10 (by kernel_rfl) ?f10 ?r10 (fun _ _ _ h => h) (Or.inl ⟨?w10, ?y10⟩) (by assumption) ?t10
  case h10 => simp only [List.getElem?_toArray, List.getElem?_cons_succ, List.getElem?_cons_zero]; rfl
  case f10 => kernel_rfl
  case r10 => kernel_rfl
  case w10 => rfl
  case y10 => (intro u hu; (go_simp) <;> with_reducible rfl)
  try simp only [Act.put, List.setIfInBounds_toArray, List.set_cons_zero, List.set_cons_succ]
  refine wpAnyH_take (i := 11) (oi := ?o11) (v := ?v11) ?h11 (by kernel_rfl) ?f11 ?r11 (fun _ _ _ h => h) (Or.inl ⟨?w11, ?y11⟩) (by assumption) ?t11
  case h11 => simp only [List.getElem?_toArray, List.getElem?_cons_succ, List.getElem?_cons_zero]; rfl
  case f11 => kernel_rfl
  case r11 => kernel_rfl
  case w11 => rfl
  case y11 => (intro u hu; (go_simp) <;> with_reducible rfl)
  try simp only [Act.put, List.setIfInBounds_toArray, List.set_cons_zero, List.set_cons_succ]
  refine wpAnyH_take (i := 12) (oi := ?o12) (v := ?v12) ?h12 (by kernel_rfl) ?f12 ?r12 (fun _ _ _ h => h) (Or.inl ⟨?w12, ?y12⟩) (by assumption) ?t12
  case h12 => simp only [List.getElem?_toArray, List.getElem?_cons_succ, List.getElem?_cons_zero]; rfl
  case f12 => kernel_rfl
  case r12 => kernel_rfl
  case w12 => rfl
  case y12 => (intro u hu; (go_simp) <;> with_reducible rfl)
  try simp only [Act.put, List.setIfInBounds_toArray, List.set_cons_zero, List.set_cons_succ]
  refine wpAnyH_take (i := 13) (oi := ?o13) (v := ?v13) ?h13 (by kernel_rfl) ?f13 ?r13 (fun _ _ _ h => h) (Or.inl ⟨?w13, ?y13⟩) (by assumption) ?t13
  case h13 => simp only [List.getElem?_toArray, List.getElem?_cons_succ, List.getElem?_cons_zero]; rfl
  case f13 => kernel_rfl
  case r13 => kernel_rfl
  case w13 => rfl
  case y13 => (intro u hu; (have hs := str_run ((RY.out.below HE.out).below hu) _ rfl; go_simp) <;> with_reducible rfl)
  try simp only [Act.put, List.setIfInBounds_toArray, List.set_cons_zero, List.set_cons_succ]
  refine wpAnyH_take (i := 14) (oi := ?o14) (v := ?v14) ?h14 (by kernel_rfl) ?f14 ?r14 (fun _ _ _ h => h) (Or.inl ⟨?w14, ?y14⟩) (by assumption) ?t14
  case h14 => simp only [List.getElem?_toArray, List.getElem?_cons_succ, List.getElem?_cons_zero]; rfl
  case f14 => kernel_rfl
  case r14 => kernel_rfl
  case w14 => rfl
  case y14 => (intro u hu; (go_simp) <;> with_reducible rfl)
  try simp only [Act.put, List.setIfInBounds_toArray, List.set_cons_zero, List.set_cons_succ]
  refine wpAnyH_take (i := 15) (oi := ?o15) (v := ?v15) ?h15 (by kernel_rfl) ?f15 ?r15 (fun _ _ _ h => h) (Or.inl ⟨?w15, ?y15⟩) (by assumption) ?t15
  case h15 => simp only [List.getElem?_toArray, List.getElem?_cons_succ, List.getElem?_cons_zero]; rfl
  case f15 => kernel_rfl
  case r15 => kernel_rfl
  case w15 => rfl
  case y15 => (intro u hu; (go_simp) <;> with_reducible rfl)
  try simp only [Act.put, List.setIfInBounds_toArray, List.set_cons_zero, List.set_cons_succ]
  refine wpAnyH_take (i := 16) (oi := ?o16) (v := ?v16) ?h16 (by kernel_rfl) ?f16 ?r16 (fun _ _ _ h => h) (Or.inl ⟨?w16, ?y16⟩) (by assumption) ?t16
  case h16 => simp only [List.getElem?_toArray, List.getElem?_cons_succ, List.getElem?_cons_zero]; rfl
  case f16 => kernel_rfl
  case r16 => kernel_rfl
  case w16 => rfl
  case y16 => (intro u hu; (go_simp) <;> with_reducible rfl)
  try simp only [Act.put, List.setIfInBounds_toArray, List.set_cons_zero, List.set_cons_succ]
  refine wpAnyH_take (i := 17) (oi := ?o17) (v := ?v17) ?h17 (by kernel_rfl) ?f17 ?r17 (fun _ _ _ h => h) (Or.inl ⟨?w17, ?y17⟩) (by assumption) ?t17
  case h17 => simp only [List.getElem?_toArray, List.getElem?_cons_succ, List.getElem?_cons_zero]; rfl
  case f17 => kernel_rfl
  case r17 => kernel_rfl
  case w17 => rfl
  case y17 => (intro u hu; (have hs := str_run ((RAN.out.below HE.out).below hu) _ rfl; go_simp) <;> with_reducible rfl)
  try simp only [Act.put, List.setIfInBounds_toArray, List.set_cons_zero, List.set_cons_succ]
  refine wpAnyH_take (i := 18) (oi := ?o18) (v := ?v18) ?h18 (by kernel_rfl) ?f18 ?r18 (fun _ _ _ h => h) (Or.inl ⟨?w18, ?y18⟩) (by assumption) ?t18
  case h18 => simp only [List.getElem?_toArray, List.getElem?_cons_succ, List.getElem?_cons_zero]; rfl
  case f18 => kernel_rfl
  case r18 => kernel_rfl
  case w18 => rfl
  case y18 => (intro u hu; (go_simp) <;> with_reducible rfl)
  try simp only [Act.put, List.setIfInBounds_toArray, List.set_cons_zero, List.set_cons_succ]
  refine wpAnyH_take (i := 19) (oi := ?o19) (v := ?v19) ?h19 (by kernel_rfl) ?f19 ?r19 (fun _ _ _ h => h) (Or.inl ⟨?w19, ?y19⟩) (by assumption) ?t19
  case h19 => simp only [List.getElem?_toArray, List.getElem?_cons_succ, List.getElem?_cons_zero]; rfl
  case f19 => kernel_rfl
  case r19 => kernel_rfl
  case w19 => rfl
  case y19 => (intro u hu; (go_simp) <;> with_reducible rfl)
  try simp only [Act.put, List.setIfInBounds_toArray, List.set_cons_zero, List.set_cons_succ]
  refine wpAnyH_take (i := 20) (oi := ?o20) (v := ?v20) ?h20 (by kernel_rfl) ?f20 ?r20 (fun _ _ _ h => h) (Or.inl ⟨?w20, ?y20⟩) (by assumption) ?t20
  case h20 => simp only [List.getElem?_toArray, List.getElem?_cons_succ, List.getElem?_cons_zero]; rfl
  case f20 => kernel_rfl
  case r20 => kernel_rfl
  case w20 => rfl
  case y20 => (intro u hu; (go_simp) <;> with_reducible rfl)
  try simp only [Act.put, List.setIfInBounds_toArray, List.set_cons_zero, List.set_cons_succ]
  refine wpAnyH_take (i := 21) (oi := ?o21) (v := ?v21) ?h21 (by kernel_rfl) ?f21 ?r21 (fun _ _ _ h => h) (Or.inl ⟨?w21, ?y21⟩) (by assumption) ?t21
  case h21 => simp only [List.getElem?_toArray, List.getElem?_cons_succ, List.getElem?_cons_zero]; rfl
  case f21 => kernel_rfl
  case r21 => kernel_rfl
  case w21 => rfl
  case y21 => (intro u hu; (go_simp) <;> with_reducible rfl)
  try simp only [Act.put, List.setIfInBounds_toArray, List.set_cons_zero, List.set_cons_succ]
  refine wpAnyH_take (i := 22) (oi := ?o22) (v := ?v22) ?h22 (by kernel_rfl) ?f22 ?r22 (fun _ _ _ h => h) (Or.inl ⟨?w22, ?y22⟩) (by assumption) ?t22
  case h22 => simp only [List.getElem?_toArray, List.getElem?_cons_succ, List.getElem?_cons_zero]; rfl
  case f22 => kernel_rfl
  case r22 => kernel_rfl
  case w22 => rfl
  case y22 => (intro u hu; (go_simp) <;> with_reducible rfl)
  try simp only [Act.put, List.setIfInBounds_toArray, List.set_cons_zero, List.set_cons_succ]
  refine wpAnyH_take (i := 24) (oi := ?o24) (v := ?v24) ?h24 (by kernel_rfl) ?f24 ?r24 (fun _ _ _ h => h) (Or.inl ⟨?w24, ?y24⟩) (by assumption) ?t24
  case h24 => simp only [List.getElem?_toArray, List.getElem?_cons_succ, List.getElem?_cons_zero]; rfl
  case f24 => kernel_rfl
  case r24 => kernel_rfl
  case w24 => rfl
  case y24 => (intro u hu; (go_simp) <;> with_reducible rfl)
  try simp only [Act.put, List.setIfInBounds_toArray, List.set_cons_zero, List.set_cons_succ]
  refine wpAnyH_take (i := 25) (oi := ?o25) (v := ?v25) ?h25 (by kernel_rfl) ?f25 ?r25 (fun _ _ _ h => h) (Or.inl ⟨?w25, ?y25⟩) (by assumption) ?t25
  case h25 => simp only [List.getElem?_toArray, List.getElem?_cons_succ, List.getElem?_cons_zero]; rfl
  case f25 => kernel_rfl
  case r25 => kernel_rfl
  case w25 => rfl
  case y25 => (intro u hu; (have hs := str_run ((RA.out.below HE.out).below hu) _ rfl; go_simp) <;> with_reducible rfl)
  try simp only [Act.put, List.setIfInBounds_toArray, List.set_cons_zero, List.set_cons_succ]
  refine wpAnyH_take (i := 26) (oi := ?o26) (v := ?v26) ?h26 (by kernel_rfl) ?f26 ?r26 (fun _ _ _ h => h) (Or.inl ⟨?w26, ?y26⟩) (by assumption) ?t26
  case h26 => simp only [List.getElem?_toArray, List.getElem?_cons_succ, List.getElem?_cons_zero]; rfl
  case f26 => kernel_rfl
  case r26 => kernel_rfl
  case w26 => rfl
  case y26 => (intro u hu; (go_simp) <;> with_reducible rfl)
  try simp only [Act.put, List.setIfInBounds_toArray, List.set_cons_zero, List.set_cons_succ]
  refine wpAnyH_take (i := 27) (oi := ?o27) (v := ?v27) ?h27 (by kernel_rfl) ?f27 ?r27 (fun _ _ _ h => h) (Or.inl ⟨?w27, ?y27⟩) (by assumption) ?t27
  case h27 => simp only [List.getElem?_toArray, List.getElem?_cons_succ, List.getElem?_cons_zero]; rfl
  case f27 => kernel_rfl
  case r27 => kernel_rfl
  case w27 => rfl
  case y27 => (intro u hu; (have hs := str_run ((RB.out.below HE.out).below hu) _ rfl; go_simp) <;> with_reducible rfl)
  try simp only [Act.put, List.setIfInBounds_toArray, List.set_cons_zero, List.set_cons_succ]
  refine wpAnyH_take (i := 28) (oi := ?o28) (v := ?v28) ?h28 (by kernel_rfl) ?f28 ?r28 (fun _ _ _ h => h) (Or.inl ⟨?w28, ?y28⟩) (by assumption) ?t28
  case h28 => simp only [List.getElem?_toArray, List.getElem?_cons_succ, List.getElem?_cons_zero]; rfl
  case f28 => kernel_rfl
  case r28 => kernel_rfl
  case w28 => rfl
  case y28 => (intro u hu; (go_simp) <;> with_reducible rfl)
  try simp only [Act.put, List.setIfInBounds_toArray, List.set_cons_zero, List.set_cons_succ]
  refine wpAnyH_ready (rs := [23]) (by kernel_rfl) (by simp) ?_
  refine AllReadyH.cons (o := ?o23) ?h23 (fun K hK => ?_) AllReadyH.nil
  case h23 => simp only [List.getElem?_toArray, List.getElem?_cons_succ, List.getElem?_cons_zero]; rfl
  go_simp
  refine (same_any _ _ _ A _ _ _ B _ ((RA.out.below HE.out)) ((RB.out.below HE.out)) (by omega) (by omega)).mono ?_
  rintro e w13 ⟨rfl, hb13⟩
  refine hK.out _ _ (Ext.trans hH hb13) (fun hH' => ?_)
  clear hK K
  refine wpAnyH_mono (S' := Ext w13) (fun u hu => Ext.trans hH' hu) ?_
  replace HE : Hid (Ext wk w13) := Ext.trans HE.out hb13
  clear hH hH' hb13
  have hH := Ext.refl w13
  refine wpAnyH_take (i := 29) (oi := ?o29) (v := ?v29) ?h29 (by kernel_rfl) ?f29 ?r29 (fun _ _ _ h => h) (Or.inl ⟨?w29, ?y29⟩) (by assumption) ?t29
  case h29 => simp only [List.getElem?_toArray, List.getElem?_cons_succ, List.getElem?_cons_zero]; rfl
  case f29 => kernel_rfl
  case r29 => kernel_rfl
  case w29 => rfl
  case y29 => (intro u hu; (go_simp) <;> with_reducible rfl)
  try simp only [Act.put, List.setIfInBounds_toArray, List.set_cons_zero, List.set_cons_succ]
  refine wpAnyH_take (i := 30) (oi := ?o30) (v := ?v30) ?h30 (by kernel_rfl) ?f30 ?r30 (fun _ _ _ h => h) (Or.inl ⟨?w30, ?y30⟩) (by assumption) ?t30
  case h30 => simp only [List.getElem?_toArray, List.getElem?_cons_succ, List.getElem?_cons_zero]; rfl
  case f30 => kernel_rfl
  case r30 => kernel_rfl
  case w30 => rfl
  case y30 => (intro u hu; (go_simp) <;> with_reducible rfl)
  try simp only [Act.put, List.setIfInBounds_toArray, List.set_cons_zero, List.set_cons_succ]
  refine wpAnyH_take (i := 31) (oi := ?o31) (v := ?v31) ?h31 (by kernel_rfl) ?f31 ?r31 (fun _ _ _ h => h) (Or.inl ⟨?w31, ?y31⟩) (by assumption) ?t31
  case h31 => simp only [List.getElem?_toArray, List.getElem?_cons_succ, List.getElem?_cons_zero]; rfl
  case f31 => kernel_rfl
  case r31 => kernel_rfl
  case w31 => rfl
  case y31 => (intro u hu; (go_simp) <;> with_reducible rfl)
  try simp only [Act.put, List.setIfInBounds_toArray, List.set_cons_zero, List.set_cons_succ]
  refine wpAnyH_take (i := 32) (oi := ?o32) (v := ?v32) ?h32 (by kernel_rfl) ?f32 ?r32 (fun _ _ _ h => h) (Or.inl ⟨?w32, ?y32⟩) (by assumption) ?t32
  case h32 => simp only [List.getElem?_toArray, List.getElem?_cons_succ, List.getElem?_cons_zero]; rfl
  case f32 => kernel_rfl
  case r32 => kernel_rfl
  case w32 => rfl
  case y32 => (intro u hu; (go_simp) <;> with_reducible rfl)
  try simp only [Act.put, List.setIfInBounds_toArray, List.set_cons_zero, List.set_cons_succ]
  refine wpAnyH_take (i := 33) (oi := ?o33) (v := ?v33) ?h33 (by kernel_rfl) ?f33 ?r33 (fun _ _ _ h => h) (Or.inl ⟨?w33, ?y33⟩) (by assumption) ?t33
  case h33 => simp only [List.getElem?_toArray, List.getElem?_cons_succ, List.getElem?_cons_zero]; rfl
  case f33 => kernel_rfl
  case r33 => kernel_rfl
  case w33 => rfl
  case y33 => (intro u hu; (have hs := str_run ((RJ.out.below HE.out).below hu) _ rfl; go_simp) <;> with_reducible rfl)
  try simp only [Act.put, List.setIfInBounds_toArray, List.set_cons_zero, List.set_cons_succ]
  refine wpAnyH_take (i := 34) (oi := ?o34) (v := ?v34) ?h34 (by kernel_rfl) ?f34 ?r34 (fun _ _ _ h => h) (Or.inl ⟨?w34, ?y34⟩) (by assumption) ?t34
  case h34 => simp only [List.getElem?_toArray, List.getElem?_cons_succ, List.getElem?_cons_zero]; rfl
  case f34 => kernel_rfl
  case r34 => kernel_rfl
  case w34 => rfl
  case y34 => (intro u hu; (go_simp) <;> with_reducible rfl)
  try simp only [Act.put, List.setIfInBounds_toArray, List.set_cons_zero, List.set_cons_succ]
  refine wpAnyH_take (i := 35) (oi := ?o35) (v := ?v35) ?h35 (by kernel_rfl) ?f35 ?r35 (fun _ _ _ h => h) (Or.inl ⟨?w35, ?y35⟩) (by assumption) ?t35
  case h35 => simp only [List.getElem?_toArray, List.getElem?_cons_succ, List.getElem?_cons_zero]; rfl
  case f35 => kernel_rfl
  case r35 => kernel_rfl
  case w35 => rfl
  case y35 => (intro u hu; (have hs := str_run ((RA.out.below HE.out).below hu) _ rfl; go_simp) <;> with_reducible rfl)
  try simp only [Act.put, List.setIfInBounds_toArray, List.set_cons_zero, List.set_cons_succ]
  refine wpAnyH_take (i := 36) (oi := ?o36) (v := ?v36) ?h36 (by kernel_rfl) ?f36 ?r36 (fun _ _ _ h => h) (Or.inl ⟨?w36, ?y36⟩) (by assumption) ?t36
  case h36 => simp only [List.getElem?_toArray, List.getElem?_cons_succ, List.getElem?_cons_zero]; rfl
  case f36 => kernel_rfl
  case r36 => kernel_rfl
  case w36 => rfl
  case y36 => (intro u hu; (go_simp) <;> with_reducible rfl)
  try simp only [Act.put, List.setIfInBounds_toArray, List.set_cons_zero, List.set_cons_succ]
  refine wpAnyH_take (i := 37) (oi := ?o37) (v := ?v37) ?h37 (by kernel_rfl) ?f37 ?r37 (fun _ _ _ h => h) (Or.inl ⟨?w37, ?y37⟩) (by assumption) ?t37
  case h37 => simp only [List.getElem?_toArray, List.getElem?_cons_succ, List.getElem?_cons_zero]; rfl
  case f37 => kernel_rfl
  case r37 => kernel_rfl
  case w37 => rfl
  case y37 => (intro u hu; (have hs := str_run ((RB.out.below HE.out).below hu) _ rfl; go_simp) <;> with_reducible rfl)
  try simp only [Act.put, List.setIfInBounds_toArray, List.set_cons_zero, List.set_cons_succ]
  refine wpAnyH_take (i := 38) (oi := ?o38) (v := ?v38) ?h38 (by kernel_rfl) ?f38 ?r38 (fun _ _ _ h => h) (Or.inl ⟨?w38, ?y38⟩) (by assumption) ?t38
  case h38 => simp only [List.getElem?_toArray, List.getElem?_cons_succ, List.getElem?_cons_zero]; rfl
  case f38 => kernel_rfl
  case r38 => kernel_rfl
  case w38 => rfl
  case y38 => (intro u hu; (go_simp; rw [if_neg (Nat.not_lt.2 hadd)]) <;> with_reducible rfl)
  try simp only [Act.put, List.setIfInBounds_toArray, List.set_cons_zero, List.set_cons_succ]
  refine wpAnyH_take (i := 39) (oi := ?o39) (v := ?v39) ?h39 (by kernel_rfl) ?f39 ?r39 (fun _ _ _ h => h) (Or.inl ⟨?w39, ?y39⟩) (by assumption) ?t39
  case h39 => simp only [List.getElem?_toArray, List.getElem?_cons_succ, List.getElem?_cons_zero]; rfl
  case f39 => kernel_rfl
  case r39 => kernel_rfl
  case w39 => rfl
  case y39 => (intro u hu; (go_simp) <;> with_reducible rfl)
  try simp only [Act.put, List.setIfInBounds_toArray, List.set_cons_zero, List.set_cons_succ]
  refine wpAnyH_take (i := 40) (oi := ?o40) (v := ?v40) ?h40 (by kernel_rfl) ?f40 ?r40 (fun _ _ _ h => h) (Or.inl ⟨?w40, ?y40⟩) (by assumption) ?t40
  case h40 => simp only [List.getElem?_toArray, List.getElem?_cons_succ, List.getElem?_cons_zero]; rfl
  case f40 => kernel_rfl
  case r40 => kernel_rfl
  case w40 => rfl
  case y40 => (intro u hu; (go_simp) <;> with_reducible rfl)
  try simp only [Act.put, List.setIfInBounds_toArray, List.set_cons_zero, List.set_cons_succ]
  refine wpAnyH_take (i := 41) (oi := ?o41) (v := ?v41) ?h41 (by kernel_rfl) ?f41 ?r41 (fun _ _ _ h => h) (Or.inl ⟨?w41, ?y41⟩) (by assumption) ?t41
  case h41 => simp only [List.getElem?_toArray, List.getElem?_cons_succ, List.getElem?_cons_zero]; rfl
  case f41 => kernel_rfl
  case r41 => kernel_rfl
  case w41 => rfl
  case y41 => (intro u hu; (go_simp) <;> with_reducible rfl)
  try simp only [Act.put, List.setIfInBounds_toArray, List.set_cons_zero, List.set_cons_succ]
  refine wpAnyH_take (i := 42) (oi := ?o42) (v := ?v42) ?h42 (by kernel_rfl) ?f42 ?r42 (fun _ _ _ h => h) (Or.inl ⟨?w42, ?y42⟩) (by assumption) ?t42
  case h42 => simp only [List.getElem?_toArray, List.getElem?_cons_succ, List.getElem?_cons_zero]; rfl
  case f42 => kernel_rfl
  case r42 => kernel_rfl
  case w42 => rfl
  case y42 => (intro u hu; (go_simp) <;> with_reducible rfl)
  try simp only [Act.put, List.setIfInBounds_toArray, List.set_cons_zero, List.set_cons_succ]
  refine wpAnyH_take (i := 43) (oi := ?o43) (v := ?v43) ?h43 (by kernel_rfl) ?f43 ?r43 (fun _ _ _ h => h) (Or.inl ⟨?w43, ?y43⟩) (by assumption) ?t43
  case h43 => simp only [List.getElem?_toArray, List.getElem?_cons_succ, List.getElem?_cons_zero]; rfl
  case f43 => kernel_rfl
  case r43 => kernel_rfl
  case w43 => rfl
  case y43 => (intro u hu; (have hs := str_run ((RK.out.below HE.out).below hu) _ rfl; go_simp) <;> with_reducible rfl)
  try simp only [Act.put, List.setIfInBounds_toArray, List.set_cons_zero, List.set_cons_succ]
  refine wpAnyH_take (i := 44) (oi := ?o44) (v := ?v44) ?h44 (by kernel_rfl) ?f44 ?r44 (fun _ _ _ h => h) (Or.inl ⟨?w44, ?y44⟩) (by assumption) ?t44
  case h44 => simp only [List.getElem?_toArray, List.getElem?_cons_succ, List.getElem?_cons_zero]; rfl
  case f44 => kernel_rfl
  case r44 => kernel_rfl
  case w44 => rfl
  case y44 => (intro u hu; (go_simp) <;> with_reducible rfl)
  try simp only [Act.put, List.setIfInBounds_toArray, List.set_cons_zero, List.set_cons_succ]
  refine wpAnyH_take (i := 45) (oi := ?o45) (v := ?v45) ?h45 (by kernel_rfl) ?f45 ?r45 (fun _ _ _ h => h) (Or.inl ⟨?w45, ?y45⟩) (by assumption) ?t45
  case h45 => simp only [List.getElem?_toArray, List.getElem?_cons_succ, List.getElem?_cons_zero]; rfl
  case f45 => kernel_rfl
  case r45 => kernel_rfl
  case w45 => rfl
  case y45 => (intro u hu; (have hs := str_run ((RA.out.below HE.out).below hu) _ rfl; go_simp) <;> with_reducible rfl)
  try simp only [Act.put, List.setIfInBounds_toArray, List.set_cons_zero, List.set_cons_succ]
  refine wpAnyH_take (i := 46) (oi := ?o46) (v := ?v46) ?h46 (by kernel_rfl) ?f46 ?r46 (fun _ _ _ h => h) (Or.inl ⟨?w46, ?y46⟩) (by assumption) ?t46
  case h46 => simp only [List.getElem?_toArray, List.getElem?_cons_succ, List.getElem?_cons_zero]; rfl
  case f46 => kernel_rfl
  case r46 => kernel_rfl
  case w46 => rfl
  case y46 => (intro u hu; (go_simp) <;> with_reducible rfl)
  try simp only [Act.put, List.setIfInBounds_toArray, List.set_cons_zero, List.set_cons_succ]
  refine wpAnyH_take (i := 47) (oi := ?o47) (v := ?v47) ?h47 (by kernel_rfl) ?f47 ?r47 (fun _ _ _ h => h) (Or.inl ⟨?w47, ?y47⟩) (by assumption) ?t47
  case h47 => simp only [List.getElem?_toArray, List.getElem?_cons_succ, List.getElem?_cons_zero]; rfl
  case f47 => kernel_rfl
  case r47 => kernel_rfl
  case w47 => rfl
  case y47 => (intro u hu; (go_simp) <;> with_reducible rfl)
  try simp only [Act.put, List.setIfInBounds_toArray, List.set_cons_zero, List.set_cons_succ]
  refine wpAnyH_done (by kernel_rfl) ?_ _
  refine NoPanic.normal ?_
  go_wp2
  have EW : Hid (Ext wc w13) := EKC.out.trans HE.out
  have K1 : Hid (OwnB wj.heap.size w13 gk la) := OK.out.below HE.out
  have J1 : Hid (OwnB wy.heap.size w13 gj mj) := (OJ.out.below EK.out).below HE.out
  have X1 : Hid (OwnB wc.heap.size w13 gx lb) := (((OX.out.below EY.out).below EJ.out).below EK.out).below HE.out
  have RC1 : Hid (Rd wc a2 la c2 A) := RC.out
  have HAC : Hid (Rd wc a0 la ca A) := HA.out.below EC.out
  have ord : wc.heap.size ≤ gx ∧ gx < gj ∧ gj < gk := by
    have h1 := OX.out.bounds
    have h2 := OJ.out.bounds
    have h3 := OK.out.bounds
    have h4 := EY.out.size
    have h5 := EJ.out.size
    omega
  clear RX RY RAN RJ RK RA RB OX OJ OK EY EJ EK EX EKC HE hH
  go_loopw [13] (fun i wr => ∃ q : Nat, q ≤ la ∧ i = .int .i64 q ∧ Hid (Ext wc wr) ∧ Hid (OwnB wj.heap.size wr gk la) ∧ Hid (OwnB wy.heap.size wr gj mj) ∧ Hid (OwnB wc.heap.size wr gx lb)) (fun i _ => la - (intOf i).toNat)
  case atStart => exact ⟨0, Nat.zero_le _, rfl, EW, K1, J1, X1⟩
  case round =>
    obtain ⟨q, hq, rfl, E1, K2, J2, X2⟩ := hrel
    by_cases hlt : q < la
    · obtain ⟨v1, c1, b1⟩ := K2.out.cell q hlt
      obtain ⟨v2, c2', b2⟩ := J2.out.cell q (by omega)
      have f1 := K2.out.frozen q
      have f2 := J2.out.frozen q
      have X1' := xor8_one v1 b1
      have X2' := xor8_one v2 b2
      have g1 : (q : Int) < la := by omega
      have g2 : (q : Int) < mj := by omega
      obtain ⟨o0, o1, o2⟩ := ord
      go_wp2
      go_roundw
      case rel => exact ⟨q + 1, by omega, by go_num, Below.setCell (Below.setCell E1.out (by show _ ≤ gk; omega) _) (by show _ ≤ gj; omega) _, (K2.out.set q _ X1').other gj q (by omega) _, (J2.out.other gk q (by omega) _).set q _ X2', (X2.out.other gk q (by omega) _).other gj q (by omega) _⟩
      case measure => simp [intOf]; omega
    · go_wp2
      go_loopw [14] (fun i wr2 => ∃ q : Nat, q ≤ lb ∧ i = .int .i64 q ∧ Hid (Ext wc wr2) ∧ Hid (OwnB wc.heap.size wr2 gx lb)) (fun i _ => lb - (intOf i).toNat)
      case atStart => exact ⟨0, Nat.zero_le _, rfl, E1, X2⟩
      case round =>
        obtain ⟨q2, hq2, rfl, E3, X3⟩ := hrel
        by_cases hlt2 : q2 < lb
        · obtain ⟨v1, c1, b1⟩ := X3.out.cell q2 hlt2
          have f1 := X3.out.frozen q2
          have X1' := xor8_one v1 b1
          have g1 : (q2 : Int) < lb := by omega
          obtain ⟨o0, o1, o2⟩ := ord
          go_wp2
          go_roundw
          case rel => exact ⟨q2 + 1, by omega, by go_num, Below.setCell E3.out (by show _ ≤ gx; omega) _, X3.out.set q2 _ X1'⟩
          case measure => simp [intOf]; omega
        · have s1 := str_run (HAC.out.below E3.out) _ rfl
          have s2 := str_run (RC1.out.below E3.out) _ rfl
          go_wp2
          go_ret
          exact ⟨rfl, EC.out.trans E3.out⟩
end Go.Proofs.Ytdndgjacpnjjaaa
