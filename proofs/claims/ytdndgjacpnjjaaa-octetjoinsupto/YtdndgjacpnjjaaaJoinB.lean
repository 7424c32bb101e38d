/-
  OctetJoins where what is joined has three bytes or more: it returns true. No statement of the seat is proved here.
-/
import Derived.Test.YtdndgjacpnjjaaaJaux
namespace Go.Proofs.Ytdndgjacpnjjaaa
open Go.RowKit

set_option maxHeartbeats 8000000 in
theorem octetJoins_b (a0 : Option Addr) (len cap : Nat) (L : List (List Int)) (F : List Int) (n : Int) (w : World) (HRL : Hid (RdL w a0 len L)) (HFL : Hid (F = L.flatten)) (HF : Hid (Byt F)) (hlen : len ≤ 1048576) (hT : L.flatten.length ≤ 1048576) (n0 : 0 ≤ n) (n1 : n < 18446744073709551616) (hq : 3 ≤ F.length) :
    Calls Try.prog 6 #[.slice a0 len cap, .int .u64 n] w fun e w' => e = .returned (.bool true) ∧ Below w.heap.size w w' := by
  obtain ⟨i0, hi, hz0, hz1, hz2⟩ := info_parts info5
  go_enter Try.func6, Try.ntmps6
  go_wp2_with fail
  refine (join_o _ _ _ L _ HRL.out (by omega) (by omega)).mono ?_
  rintro e wj ⟨gj, mj, rfl, hmj, hoo, hrj, hbj⟩
  have RJ0 : Hid (Rd wj (some ⟨gj, 0, none⟩) mj mj F) := by unfold Hid; rw [HFL.out]; exact hrj
  have emj : mj = F.length := by rw [HFL.out]; exact hmj.out
  have bmj : mj ≤ 1048576 := by rw [HFL.out] at emj; omega
  have EJ : Hid (Ext w wj) := hbj
  have HMJ : Hid (mj = F.length) := emj
  clear hrj hbj hmj emj hoo
  go_wp2
  go_loop [6, 7] (fun s i => ∃ (k : Nat) (x : ByteArray), k ≤ len ∧ i = .int .i64 k ∧ s = .string x ∧ Hid (x = strOfNums (L.take k).flatten)) (fun _ i => len - (intOf i).toNat)
  case atStart => exact ⟨0, _, Nat.zero_le _, rfl, rfl, rfl⟩
  case round =>
    obtain ⟨k, x, hk, rfl, rfl, HX⟩ := hrel
    by_cases hlt : k < len
    · obtain ⟨b, off, rfl, hc⟩ := HRL.out.cell (by omega)
      obtain ⟨ai, ni, ci, c1, hri⟩ := hc k hlt
      have c1' := cell_later EJ.out c1
      have s1 := str_run (hri.below EJ.out) _ rfl
      have hsum : x.size + (strOfNums (L[k]?.getD [])).size ≤ 9223372036854775807 := by
        have h1 := flen_le L (k + 1)
        rw [flen_succ L k (by rw [HRL.out.hlen]; omega)] at h1
        unfold flen at h1
        rw [HX.out, strOfNums_size, strOfNums_size]
        omega
      have HN : Hid (x ++ strOfNums (L[k]?.getD []) = strOfNums (L.take (k + 1)).flatten) := by
        unfold Hid
        rw [HX.out, str_app, flat_succ L k (by rw [HRL.out.hlen]; omega)]
      have g1 : (k : Int) < len := by omega
      clear hc c1 hri
      generalize strOfNums (L[k]?.getD []) = piece at *
      go_wp2
      go_round
      case rel => exact ⟨k + 1, _, by omega, by go_num, rfl, HN⟩
      case measure => simp [intOf]; omega
    · have e : k = len := by omega
      have HS : Hid (x = strOfNums F) := by
        unfold Hid
        rw [HX.out, HFL.out, e, ← HRL.out.hlen, List.take_length]
      subst e
      have hx := HS.out
      subst hx
      clear HX HS
      go_wp2_with fail
      refine (put64_g _ _ n0 n1).mono ?_
      rintro e w1 ⟨g1, rfl, hrd1, hb1⟩
      have R1 : Hid (Rd w1 (some ⟨g1, 0, none⟩) 8 8 (lay 8 n)) := hrd1
      have E1 : Hid (Ext wj w1) := hb1
      clear hrd1 hb1
      go_wp2_with fail
      refine (join_o _ _ _ [lay 8 n, F] _ (RdL.two w1 _ _ _ (lay 8 n) _ _ _ F 25 R1.out (RJ0.out.below E1.out)) (by decide) (by have := HMJ.out; have := lay_length 8 n; simp; omega)).mono ?_
      rintro e w2 ⟨g2, m2, rfl, hm2, hoo, hrd2, hb2⟩
      have E2 : Hid (Ext w1 w2) := ((Ext.refl w1).trans ((Below.refl _ _).alloc (Nat.le_refl _) _)).trans hb2
      have e2 : m2 = 8 + mj := by have h1 := hm2.out; have h2 := HMJ.out; have h3 := lay_length 8 n; simp at h1; omega
      rw [e2] at hrd2 ⊢
      have R2 : Hid (Rd w2 (some ⟨g2, 0, none⟩) (8 + mj) (8 + mj) (lay 8 n ++ F)) := by
        unfold Hid
        have e1 : [lay 8 n, F].flatten = lay 8 n ++ F := by simp
        rw [← e1]
        exact hrd2
      clear hrd2 hb2 hm2 hoo e2 m2
      go_wp2_with fail
      refine (get64_any _ _ _ _ _ R2.out (by omega)).mono ?_
      rintro e w' ⟨rfl, hw⟩
      rw [hw]
      clear hw w'
      rw [got_front n F n0 n1, show decide (8 ≤ 8 + mj) = true by simp]
      go_wp2_with fail
      refine (put64_g _ _ n0 n1).mono ?_
      rintro e wr0 ⟨g3, rfl, hrd3, hb3⟩
      have E3 : Hid (Ext w2 wr0) := hb3
      go_wp2_with fail
      refine (get32_any _ _ _ _ _ hrd3 (by decide)).mono ?_
      rintro e w' ⟨rfl, hw⟩
      rw [hw]
      clear hw w'
      rw [got_low n]
      have RJ : Hid (Rd wr0 (some ⟨gj, 0, none⟩) mj mj F) := ((RJ0.out.below E1.out).below E2.out).below E3.out
      have E0 : Hid (Ext w wr0) := ((EJ.out.trans E1.out).trans E2.out).trans E3.out
      clear hrd3 hb3 RJ0 R1 R2 E1 E2 E3 EJ
      have hwr := IntKind.wrap_u32' n
      have q1 : (3 : Int) ≤ mj := by have := HMJ.out; omega
      have hmk : ∀ u : World, (Instr.makeSlice 25 (.int .i64 (mj : Int)) (.int .i64 (mj : Int))).run Try.prog u =
          .ok (.slice (some ⟨u.heap.size, 0, none⟩) mj mj) (u.alloc (.cells (madeCells #[.int .u8 0] mj) 5)) := fun u => by
        have h := run_make (P := Try.prog) u 25 5 i0 (.int .u8 0) Try.underlying25 hi hz0 .i64 .i64 (mj : Int) (mj : Int) (by omega) (Int.le_refl _) (by rw [hz2]; omega) (by omega)
        rw [Int.toNat_natCast] at h
        simpa [hz1, Value.cells] using h
      go_wp2_with fail
      refine wp_region_noPanic ?_
      refine wp_region_held_drew (S := Ext wr0) (by kernel_rfl) (Ext.refl _).drew (fun hH => ?_)
      have HE : Hid (Ext wr0 wr0.drew) := (Ext.refl _).drew
      refine wpAnyH_ready (rs := [0]) (by kernel_rfl) (by simp) ?_
      refine AllReadyH.cons (o := ?o0) ?h0 (fun K hK => ?_) AllReadyH.nil
      case h0 => simp only [List.getElem?_toArray, List.getElem?_cons_zero]; rfl
      go_simp
      refine (known_any _).mono ?_
      rintro e w11 ⟨rfl, hb11⟩
      refine hK.out _ _ (Ext.trans hH hb11) (fun hH' => ?_)
      clear hK K
      refine wpAnyH_mono (S' := Ext w11) (fun u hu => Ext.trans hH' hu) ?_
      replace HE : Hid (Ext wr0 w11) := Ext.trans HE.out hb11
      clear hH hH' hb11
      have hH := Ext.refl w11
      refine wpAnyH_take (i := 1) (oi := ?o1) (v := ?v1) ?h1 (by kernel_rfl) ?f1 ?r1 (fun _ _ _ h => h) (Or.inl ⟨?w1, ?y1⟩) (by assumption) ?t1
      case h1 => simp only [List.getElem?_toArray, List.getElem?_cons_succ, List.getElem?_cons_zero]; rfl
      case f1 => kernel_rfl
      case r1 => kernel_rfl
      case w1 => rfl
      case y1 => (intro u hu; (go_simp) <;> with_reducible rfl)
      try simp only [Act.put, List.setIfInBounds_toArray, List.set_cons_zero, List.set_cons_succ]
      refine wpAnyH_take (i := 2) (oi := ?o2) (v := ?v2) ?h2 (by kernel_rfl) ?f2 ?r2 (fun _ _ _ h => h) (Or.inl ⟨?w2, ?y2⟩) (by assumption) ?t2
      case h2 => simp only [List.getElem?_toArray, List.getElem?_cons_succ, List.getElem?_cons_zero]; rfl
      case f2 => kernel_rfl
      case r2 => kernel_rfl
      case w2 => rfl
      case y2 => (intro u hu; (go_simp) <;> with_reducible rfl)
      try simp only [Act.put, List.setIfInBounds_toArray, List.set_cons_zero, List.set_cons_succ]
      refine wpAnyH_take (i := 3) (oi := ?o3) (v := ?v3) ?h3 (by kernel_rfl) ?f3 ?r3 (fun _ _ _ h => h) (Or.inl ⟨?w3, ?y3⟩) (by assumption) ?t3
      case h3 => simp only [List.getElem?_toArray, List.getElem?_cons_succ, List.getElem?_cons_zero]; rfl
      case f3 => kernel_rfl
      case r3 => kernel_rfl
      case w3 => rfl
      case y3 => (intro u hu; (have hs := str_run ((RJ.out.below HE.out).below hu) _ rfl; go_simp) <;> with_reducible rfl)
      try simp only [Act.put, List.setIfInBounds_toArray, List.set_cons_zero, List.set_cons_succ]
      refine wpAnyH_take (i := 4) (oi := ?o4) (v := ?v4) ?h4 (by kernel_rfl) ?f4 ?r4 (fun _ _ _ h => h) (Or.inl ⟨?w4, ?y4⟩) (by assumption) ?t4
      case h4 => simp only [List.getElem?_toArray, List.getElem?_cons_succ, List.getElem?_cons_zero]; rfl
      case f4 => kernel_rfl
      case r4 => kernel_rfl
      case w4 => rfl
      case y4 => (intro u hu; (go_simp) <;> with_reducible rfl)
      try simp only [Act.put, List.setIfInBounds_toArray, List.set_cons_zero, List.set_cons_succ]
      refine wpAnyH_take (i := 5) (oi := ?o5) (v := ?v5) ?h5 (by kernel_rfl) ?f5 ?r5 (fun _ _ _ h => h) (Or.inl ⟨?w5, ?y5⟩) (by assumption) ?t5
      case h5 => simp only [List.getElem?_toArray, List.getElem?_cons_succ, List.getElem?_cons_zero]; rfl
      case f5 => kernel_rfl
      case r5 => kernel_rfl
      case w5 => rfl
      case y5 => (intro u hu; (go_simp) <;> with_reducible rfl)
      try simp only [Act.put, List.setIfInBounds_toArray, List.set_cons_zero, List.set_cons_succ]
      refine wpAnyH_take (i := 6) (oi := ?o6) (v := ?v6) ?h6 (by kernel_rfl) ?f6 ?r6 (fun _ _ _ h => h) (Or.inl ⟨?w6, ?y6⟩) (by assumption) ?t6
      case h6 => simp only [List.getElem?_toArray, List.getElem?_cons_succ, List.getElem?_cons_zero]; rfl
      case f6 => kernel_rfl
      case r6 => kernel_rfl
      case w6 => rfl
      case y6 => (intro u hu; (go_simp) <;> with_reducible rfl)
      try simp only [Act.put, List.setIfInBounds_toArray, List.set_cons_zero, List.set_cons_succ]
      refine wpAnyH_take (i := 7) (oi := ?o7) (v := ?v7) ?h7 (by kernel_rfl) ?f7 ?r7 (fun _ _ _ h => h) (Or.inl ⟨?w7, ?y7⟩) (by assumption) ?t7
      case h7 => simp only [List.getElem?_toArray, List.getElem?_cons_succ, List.getElem?_cons_zero]; rfl
      case f7 => kernel_rfl
      case r7 => kernel_rfl
      case w7 => rfl
      case y7 => (intro u hu; (go_simp) <;> with_reducible rfl)
      try simp only [Act.put, List.setIfInBounds_toArray, List.set_cons_zero, List.set_cons_succ]
      refine wpAnyH_take (i := 8) (oi := ?o8) (v := ?v8) ?h8 (by kernel_rfl) ?f8 ?r8 (fun _ _ _ h => h) (Or.inl ⟨?w8, ?y8⟩) (by assumption) ?t8
      case h8 => simp only [List.getElem?_toArray, List.getElem?_cons_succ, List.getElem?_cons_zero]; rfl
      case f8 => kernel_rfl
      case r8 => kernel_rfl
      case w8 => rfl
      case y8 => (intro u hu; (go_simp) <;> with_reducible rfl)
      try simp only [Act.put, List.setIfInBounds_toArray, List.set_cons_zero, List.set_cons_succ]
      refine wpAnyH_take (i := 9) (oi := ?o9) (v := ?v9) ?h9 (by kernel_rfl) ?f9 ?r9 (fun _ _ _ h => h) (Or.inl ⟨?w9, ?y9⟩) (by assumption) ?t9
      case h9 => simp only [List.getElem?_toArray, List.getElem?_cons_succ, List.getElem?_cons_zero]; rfl
      case f9 => kernel_rfl
      case r9 => kernel_rfl
      case w9 => rfl
      case y9 => (intro u hu; (go_simp) <;> with_reducible rfl)
      try simp only [Act.put, List.setIfInBounds_toArray, List.set_cons_zero, List.set_cons_succ]
      refine wpAnyH_take (i := 10) (oi := ?o10) (v := ?v10) ?h10 (by kernel_rfl) ?f10 ?r10 (fun _ _ _ h => h) (Or.inl ⟨?w10, ?y10⟩) (by assumption) ?t10
      case h10 => simp only [List.getElem?_toArray, List.getElem?_cons_succ, List.getElem?_cons_zero]; rfl
      case f10 => kernel_rfl
      case r10 => kernel_rfl
      case w10 => rfl
      case y10 => (intro u hu; (go_simp) <;> with_reducible rfl)
      try simp only [Act.put, List.setIfInBounds_toArray, List.set_cons_zero, List.set_cons_succ]
      refine wpAnyH_take (i := 11) (oi := ?o11) (v := ?v11) ?h11 (by kernel_rfl) ?f11 ?r11 (fun _ _ _ h => h) (Or.inl ⟨?w11, ?y11⟩) (by assumption) ?t11
      case h11 => simp only [List.getElem?_toArray, List.getElem?_cons_succ, List.getElem?_cons_zero]; rfl
      case f11 => kernel_rfl
      case r11 => kernel_rfl
      case w11 => rfl
      case y11 => (intro u hu; (go_simp) <;> with_reducible rfl)
      try simp only [Act.put, List.setIfInBounds_toArray, List.set_cons_zero, List.set_cons_succ]
      refine wpAnyH_take (i := 12) (oi := ?o12) (v := ?v12) ?h12 (by kernel_rfl) ?f12 ?r12 (fun _ _ _ h => h) (Or.inl ⟨?w12, ?y12⟩) (by assumption) ?t12
      case h12 => simp only [List.getElem?_toArray, List.getElem?_cons_succ, List.getElem?_cons_zero]; rfl
      case f12 => kernel_rfl
      case r12 => kernel_rfl
      case w12 => rfl
      case y12 => (intro u hu; (go_simp) <;> with_reducible rfl)
      try simp only [Act.put, List.setIfInBounds_toArray, List.set_cons_zero, List.set_cons_succ]
      refine wpAnyH_take (i := 13) (oi := ?o13) (v := ?v13) ?h13 (by kernel_rfl) ?f13 ?r13 (fun _ _ _ h => h) (Or.inl ⟨?w13, ?y13⟩) (by assumption) ?t13
      case h13 => simp only [List.getElem?_toArray, List.getElem?_cons_succ, List.getElem?_cons_zero]; rfl
      case f13 => kernel_rfl
      case r13 => kernel_rfl
      case w13 => rfl
      case y13 => (intro u hu; (go_simp) <;> with_reducible rfl)
      try simp only [Act.put, List.setIfInBounds_toArray, List.set_cons_zero, List.set_cons_succ]
      refine wpAnyH_take (i := 14) (oi := ?o14) (v := ?v14) ?h14 (by kernel_rfl) ?f14 ?r14 (fun _ _ _ h => h) (Or.inl ⟨?w14, ?y14⟩) (by assumption) ?t14
      case h14 => simp only [List.getElem?_toArray, List.getElem?_cons_succ, List.getElem?_cons_zero]; rfl
      case f14 => kernel_rfl
      case r14 => kernel_rfl
      case w14 => rfl
      case y14 => (intro u hu; (go_simp) <;> with_reducible rfl)
      try simp only [Act.put, List.setIfInBounds_toArray, List.set_cons_zero, List.set_cons_succ]
      refine wpAnyH_take (i := 15) (oi := ?o15) (v := ?v15) ?h15 (by kernel_rfl) ?f15 ?r15 (fun _ _ _ h => h) (Or.inl ⟨?w15, ?y15⟩) (by assumption) ?t15
      case h15 => simp only [List.getElem?_toArray, List.getElem?_cons_succ, List.getElem?_cons_zero]; rfl
      case f15 => kernel_rfl
      case r15 => kernel_rfl
      case w15 => rfl
      case y15 => (intro u hu; (go_simp) <;> with_reducible rfl)
      try simp only [Act.put, List.setIfInBounds_toArray, List.set_cons_zero, List.set_cons_succ]
      refine wpAnyH_take (i := 16) (oi := ?o16) (v := ?v16) ?h16 (by kernel_rfl) ?f16 ?r16 (fun _ _ _ h => h) (Or.inl ⟨?w16, ?y16⟩) (by assumption) ?t16
      case h16 => simp only [List.getElem?_toArray, List.getElem?_cons_succ, List.getElem?_cons_zero]; rfl
      case f16 => kernel_rfl
      case r16 => kernel_rfl
      case w16 => rfl
      case y16 => (intro u hu; (go_simp) <;> with_reducible rfl)
      try simp only [Act.put, List.setIfInBounds_toArray, List.set_cons_zero, List.set_cons_succ]
      refine wpAnyH_take (i := 17) (oi := ?o17) (v := ?v17) ?h17 (by kernel_rfl) ?f17 ?r17 (fun _ _ _ h => h) (Or.inl ⟨?w17, ?y17⟩) (by assumption) ?t17
      case h17 => simp only [List.getElem?_toArray, List.getElem?_cons_succ, List.getElem?_cons_zero]; rfl
      case f17 => kernel_rfl
      case r17 => kernel_rfl
      case w17 => rfl
      case y17 => (intro u hu; (go_simp) <;> with_reducible rfl)
      try simp only [Act.put, List.setIfInBounds_toArray, List.set_cons_zero, List.set_cons_succ]
      refine wpAnyH_take (i := 18) (oi := ?o18) (v := ?v18) ?h18 (by kernel_rfl) ?f18 ?r18 (fun _ _ _ h => h) (Or.inl ⟨?w18, ?y18⟩) (by assumption) ?t18
      case h18 => simp only [List.getElem?_toArray, List.getElem?_cons_succ, List.getElem?_cons_zero]; rfl
      case f18 => kernel_rfl
      case r18 => kernel_rfl
      case w18 => rfl
      case y18 => (intro u hu; (go_simp) <;> with_reducible rfl)
      try simp only [Act.put, List.setIfInBounds_toArray, List.set_cons_zero, List.set_cons_succ]
      refine wpAnyH_take (i := 19) (oi := ?o19) (v := ?v19) ?h19 (by kernel_rfl) ?f19 ?r19 (fun _ _ _ h => h) (Or.inl ⟨?w19, ?y19⟩) (by assumption) ?t19
      case h19 => simp only [List.getElem?_toArray, List.getElem?_cons_succ, List.getElem?_cons_zero]; rfl
      case f19 => kernel_rfl
      case r19 => kernel_rfl
      case w19 => rfl
      case y19 => (intro u hu; (go_simp) <;> with_reducible rfl)
      try simp only [Act.put, List.setIfInBounds_toArray, List.set_cons_zero, List.set_cons_succ]
      refine wpAnyH_take (i := 20) (oi := ?o20) (v := ?v20) ?h20 (by kernel_rfl) ?f20 ?r20 (fun _ _ _ h => h) (Or.inl ⟨?w20, ?y20⟩) (by assumption) ?t20
      case h20 => simp only [List.getElem?_toArray, List.getElem?_cons_succ, List.getElem?_cons_zero]; rfl
      case f20 => kernel_rfl
      case r20 => kernel_rfl
      case w20 => rfl
      case y20 => (intro u hu; (go_simp) <;> with_reducible rfl)
      try simp only [Act.put, List.setIfInBounds_toArray, List.set_cons_zero, List.set_cons_succ]
      refine wpAnyH_take (i := 21) (oi := ?o21) (v := ?v21) ?h21 (by kernel_rfl) ?f21 ?r21 (fun _ _ _ h => h) (Or.inl ⟨?w21, ?y21⟩) (by assumption) ?t21
      case h21 => simp only [List.getElem?_toArray, List.getElem?_cons_succ, List.getElem?_cons_zero]; rfl
      case f21 => kernel_rfl
      case r21 => kernel_rfl
      case w21 => rfl
      case y21 => (intro u hu; (go_simp) <;> with_reducible rfl)
      try simp only [Act.put, List.setIfInBounds_toArray, List.set_cons_zero, List.set_cons_succ]
      refine wpAnyH_take (i := 22) (oi := ?o22) (v := ?v22) ?h22 (by kernel_rfl) ?f22 ?r22 (fun _ _ _ h => h) (Or.inl ⟨?w22, ?y22⟩) (by assumption) ?t22
      case h22 => simp only [List.getElem?_toArray, List.getElem?_cons_succ, List.getElem?_cons_zero]; rfl
      case f22 => kernel_rfl
      case r22 => kernel_rfl
      case w22 => rfl
      case y22 => (intro u hu; (go_simp) <;> with_reducible rfl)
      try simp only [Act.put, List.setIfInBounds_toArray, List.set_cons_zero, List.set_cons_succ]
      refine wpAnyH_take (i := 23) (oi := ?o23) (v := ?v23) ?h23 (by kernel_rfl) ?f23 ?r23 (fun _ _ _ h => h) (Or.inl ⟨?w23, ?y23⟩) (by assumption) ?t23
      case h23 => simp only [List.getElem?_toArray, List.getElem?_cons_succ, List.getElem?_cons_zero]; rfl
      case f23 => kernel_rfl
      case r23 => kernel_rfl
      case w23 => rfl
      case y23 => (intro u hu; (go_simp) <;> with_reducible rfl)
      try simp only [Act.put, List.setIfInBounds_toArray, List.set_cons_zero, List.set_cons_succ]
      refine wpAnyH_take (i := 24) (oi := ?o24) (v := ?v24) ?h24 (by kernel_rfl) ?f24 ?r24 (fun _ _ _ h => h) (Or.inl ⟨?w24, ?y24⟩) (by assumption) ?t24
      case h24 => simp only [List.getElem?_toArray, List.getElem?_cons_succ, List.getElem?_cons_zero]; rfl
      case f24 => kernel_rfl
      case r24 => kernel_rfl
      case w24 => rfl
      case y24 => (intro u hu; (go_simp) <;> with_reducible rfl)
      try simp only [Act.put, List.setIfInBounds_toArray, List.set_cons_zero, List.set_cons_succ]
      refine wpAnyH_take (i := 25) (oi := ?o25) (v := ?v25) ?h25 (by kernel_rfl) ?f25 ?r25 (fun _ _ _ h => h) (Or.inl ⟨?w25, ?y25⟩) (by assumption) ?t25
      case h25 => simp only [List.getElem?_toArray, List.getElem?_cons_succ, List.getElem?_cons_zero]; rfl
      case f25 => kernel_rfl
      case r25 => kernel_rfl
      case w25 => rfl
      case y25 => (intro u hu; (go_simp) <;> with_reducible rfl)
      try simp only [Act.put, List.setIfInBounds_toArray, List.set_cons_zero, List.set_cons_succ]
      refine wpAnyH_take (i := 26) (oi := ?o26) (v := ?v26) ?h26 (by kernel_rfl) ?f26 ?r26 (fun _ _ _ h => h) (Or.inl ⟨?w26, ?y26⟩) (by assumption) ?t26
      case h26 => simp only [List.getElem?_toArray, List.getElem?_cons_succ, List.getElem?_cons_zero]; rfl
      case f26 => kernel_rfl
      case r26 => kernel_rfl
      case w26 => rfl
      case y26 => (intro u hu; (go_simp) <;> with_reducible rfl)
      try simp only [Act.put, List.setIfInBounds_toArray, List.set_cons_zero, List.set_cons_succ]
      refine wpAnyH_take (i := 28) (oi := ?o28) (v := ?v28) ?h28 (by kernel_rfl) ?f28 ?r28 (fun _ _ _ h => h) (Or.inl ⟨?w28, ?y28⟩) (by assumption) ?t28
      case h28 => simp only [List.getElem?_toArray, List.getElem?_cons_succ, List.getElem?_cons_zero]; rfl
      case f28 => kernel_rfl
      case r28 => kernel_rfl
      case w28 => rfl
      case y28 => (intro u hu; (go_simp) <;> with_reducible rfl)
      try simp only [Act.put, List.setIfInBounds_toArray, List.set_cons_zero, List.set_cons_succ]
      refine wpAnyH_take (i := 29) (oi := ?o29) (v := ?v29) ?h29 (by kernel_rfl) ?f29 ?r29 (fun _ _ _ h => h) (Or.inl ⟨?w29, ?y29⟩) (by assumption) ?t29
      case h29 => simp only [List.getElem?_toArray, List.getElem?_cons_succ, List.getElem?_cons_zero]; rfl
      case f29 => kernel_rfl
      case r29 => kernel_rfl
      case w29 => rfl
      case y29 => (intro u hu; (go_simp) <;> with_reducible rfl)
      try simp only [Act.put, List.setIfInBounds_toArray, List.set_cons_zero, List.set_cons_succ]
      refine wpAnyH_ready (rs := [27, 30]) (by kernel_rfl) (by simp) ?_
      refine AllReadyH.cons (o := ?o27) ?h27 (fun K hK => ?_) ?m27
      case h27 => simp only [List.getElem?_toArray, List.getElem?_cons_succ, List.getElem?_cons_zero]; rfl
      · go_simp
        refine (xor_o _ _ _ F _ _ _ F _ (RJ.out.below HE.out) (RJ.out.below HE.out) (by omega) (by omega)).mono ?_
        rintro e w27 ⟨gx, mx, rfl, hmx, hoo, hrx, hbx⟩
        have emx : mx = mj := by have := hmx.out; omega
        rw [emx]
        have RXX : Hid (Rd w27 (some ⟨gx, 0, none⟩) mj mj (List.replicate mj 0)) := by
          have e0 := xorL_self HF.out
          rw [← HMJ.out] at e0
          unfold Hid
          rw [← e0, ← emx]
          exact hrx
        clear hrx hmx hoo emx mx
        refine hK.out _ _ (Ext.trans hH hbx) (fun hH' => ?_)
        clear hK K
        refine wpAnyH_mono (S' := Ext w27) (fun u hu => Ext.trans hH' hu) ?_
        replace HE : Hid (Ext wr0 w27) := Ext.trans HE.out hbx
        clear hH hH' hbx
        have hH := Ext.refl w27
        refine wpAnyH_ready (rs := [30]) (by kernel_rfl) (by simp) ?_
        refine AllReadyH.cons (o := ?o30) ?h30 (fun K hK => ?_) AllReadyH.nil
        case h30 => simp only [List.getElem?_toArray, List.getElem?_cons_succ, List.getElem?_cons_zero]; rfl
        go_simp
        obtain ⟨w30, hww30⟩ : ∃ u : World, u = w27.alloc (.cells (madeCells #[.int .u8 0] mj) 5) := ⟨_, rfl⟩
        rw [← hww30]
        have hbw30 : Below w27.heap.size w27 w30 := by rw [hww30]; exact (Below.refl _ _).alloc (Nat.le_refl _) _
        have RZ : Hid (Rd w30 (some ⟨w27.heap.size, 0, none⟩) mj mj (List.replicate mj 0)) := by
          unfold Hid
          rw [hww30]
          exact rd_zeros w27 mj
        clear hww30
        refine hK.out _ _ (Ext.trans hH hbw30) (fun hH' => ?_)
        clear hK K
        refine wpAnyH_mono (S' := Ext w30) (fun u hu => Ext.trans hH' hu) ?_
        replace HE : Hid (Ext wr0 w30) := Ext.trans HE.out hbw30
        clear hH hH'
        have hH := Ext.refl w30
        refine wpAnyH_ready (rs := [31]) (by kernel_rfl) (by simp) ?_
        refine AllReadyH.cons (o := ?o31) ?h31 (fun K hK => ?_) AllReadyH.nil
        case h31 => simp only [List.getElem?_toArray, List.getElem?_cons_succ, List.getElem?_cons_zero]; rfl
        go_simp
        refine (same_any _ _ _ (List.replicate mj 0) _ _ _ (List.replicate mj 0) _ ((RXX.out.below hbw30)) RZ.out (by omega) (by omega)).mono ?_
        rintro e w31 ⟨rfl, hb31⟩
        refine hK.out _ _ (Ext.trans hH hb31) (fun hH' => ?_)
        clear hK K
        refine wpAnyH_mono (S' := Ext w31) (fun u hu => Ext.trans hH' hu) ?_
        replace HE : Hid (Ext wr0 w31) := Ext.trans HE.out hb31
        clear hH hH' hb31
        have hH := Ext.refl w31
        refine wpAnyH_take (i := 32) (oi := ?o32) (v := ?v32) ?h32 (by kernel_rfl) ?f32 ?r32 (fun _ _ _ h => h) (Or.inl ⟨?w32, ?y32⟩) (by assumption) ?t32
        case h32 => simp only [List.getElem?_toArray, List.getElem?_cons_succ, List.getElem?_cons_zero]; rfl
        case f32 => kernel_rfl
        case r32 => kernel_rfl
        case w32 => rfl
        case y32 => (intro u hu; (go_simp) <;> with_reducible rfl)
        try simp only [Act.put, List.setIfInBounds_toArray, List.set_cons_zero, List.set_cons_succ]
        refine wpAnyH_take (i := 33) (oi := ?o33) (v := ?v33) ?h33 (by kernel_rfl) ?f33 ?r33 (fun _ _ _ h => h) (Or.inl ⟨?w33, ?y33⟩) (by assumption) ?t33
        case h33 => simp only [List.getElem?_toArray, List.getElem?_cons_succ, List.getElem?_cons_zero]; rfl
        case f33 => kernel_rfl
        case r33 => kernel_rfl
        case w33 => rfl
        case y33 => (intro u hu; (go_simp) <;> with_reducible rfl)
        try simp only [Act.put, List.setIfInBounds_toArray, List.set_cons_zero, List.set_cons_succ]
        refine wpAnyH_take (i := 34) (oi := ?o34) (v := ?v34) ?h34 (by kernel_rfl) ?f34 ?r34 (fun _ _ _ h => h) (Or.inl ⟨?w34, ?y34⟩) (by assumption) ?t34
        case h34 => simp only [List.getElem?_toArray, List.getElem?_cons_succ, List.getElem?_cons_zero]; rfl
        case f34 => kernel_rfl
        case r34 => kernel_rfl
        case w34 => rfl
        case y34 => (intro u hu; (go_simp) <;> with_reducible rfl)
        try simp only [Act.put, List.setIfInBounds_toArray, List.set_cons_zero, List.set_cons_succ]
        refine wpAnyH_take (i := 37) (oi := ?o37) (v := ?v37) ?h37 (by kernel_rfl) ?f37 ?r37 (fun _ _ _ h => h) (Or.inl ⟨?w37, ?y37⟩) (by assumption) ?t37
        case h37 => simp only [List.getElem?_toArray, List.getElem?_cons_succ, List.getElem?_cons_zero]; rfl
        case f37 => kernel_rfl
        case r37 => kernel_rfl
        case w37 => rfl
        case y37 => (intro u hu; (go_simp) <;> with_reducible rfl)
        try simp only [Act.put, List.setIfInBounds_toArray, List.set_cons_zero, List.set_cons_succ]
        refine wpAnyH_take (i := 38) (oi := ?o38) (v := ?v38) ?h38 (by kernel_rfl) ?f38 ?r38 (fun _ _ _ h => h) (Or.inl ⟨?w38, ?y38⟩) (by assumption) ?t38
        case h38 => simp only [List.getElem?_toArray, List.getElem?_cons_succ, List.getElem?_cons_zero]; rfl
        case f38 => kernel_rfl
        case r38 => kernel_rfl
        case w38 => rfl
        case y38 => (intro u hu; (go_simp) <;> with_reducible rfl)
        try simp only [Act.put, List.setIfInBounds_toArray, List.set_cons_zero, List.set_cons_succ]
        refine wpAnyH_take (i := 39) (oi := ?o39) (v := ?v39) ?h39 (by kernel_rfl) ?f39 ?r39 (fun _ _ _ h => h) (Or.inl ⟨?w39, ?y39⟩) (by assumption) ?t39
        case h39 => simp only [List.getElem?_toArray, List.getElem?_cons_succ, List.getElem?_cons_zero]; rfl
        case f39 => kernel_rfl
        case r39 => kernel_rfl
        case w39 => rfl
        case y39 => (intro u hu; (go_simp) <;> with_reducible rfl)
        try simp only [Act.put, List.setIfInBounds_toArray, List.set_cons_zero, List.set_cons_succ]
        refine wpAnyH_ready (rs := [35]) (by kernel_rfl) (by simp) ?_
        refine AllReadyH.cons (o := ?o35) ?h35 (fun K hK => ?_) AllReadyH.nil
        case h35 => simp only [List.getElem?_toArray, List.getElem?_cons_succ, List.getElem?_cons_zero]; rfl
        go_simp
        refine (few_long _ _ _ F _ (RJ.out.below HE.out) (by omega) (by omega)).mono ?_
        rintro e w35 ⟨a35, c35, rfl, hb35⟩
        refine hK.out _ _ (Ext.trans hH hb35) (fun hH' => ?_)
        clear hK K
        refine wpAnyH_mono (S' := Ext w35) (fun u hu => Ext.trans hH' hu) ?_
        replace HE : Hid (Ext wr0 w35) := Ext.trans HE.out hb35
        clear hH hH' hb35
        have hH := Ext.refl w35
        refine wpAnyH_take (i := 36) (oi := ?o36) (v := ?v36) ?h36 (by kernel_rfl) ?f36 ?r36 (fun _ _ _ h => h) (Or.inl ⟨?w36, ?y36⟩) (by assumption) ?t36
        case h36 => simp only [List.getElem?_toArray, List.getElem?_cons_succ, List.getElem?_cons_zero]; rfl
        case f36 => kernel_rfl
        case r36 => kernel_rfl
        case w36 => rfl
        case y36 => (intro u hu; (go_simp) <;> with_reducible rfl)
        try simp only [Act.put, List.setIfInBounds_toArray, List.set_cons_zero, List.set_cons_succ]
        refine wpAnyH_take (i := 40) (oi := ?o40) (v := ?v40) ?h40 (by kernel_rfl) ?f40 ?r40 (fun _ _ _ h => h) (Or.inl ⟨?w40, ?y40⟩) (by assumption) ?t40
        case h40 => simp only [List.getElem?_toArray, List.getElem?_cons_succ, List.getElem?_cons_zero]; rfl
        case f40 => kernel_rfl
        case r40 => kernel_rfl
        case w40 => rfl
        case y40 => (intro u hu; (go_simp) <;> with_reducible rfl)
        try simp only [Act.put, List.setIfInBounds_toArray, List.set_cons_zero, List.set_cons_succ]
        refine wpAnyH_take (i := 41) (oi := ?o41) (v := ?v41) ?h41 (by kernel_rfl) ?f41 ?r41 (fun _ _ _ h => h) (Or.inl ⟨?w41, ?y41⟩) (by assumption) ?t41
        case h41 => simp only [List.getElem?_toArray, List.getElem?_cons_succ, List.getElem?_cons_zero]; rfl
        case f41 => kernel_rfl
        case r41 => kernel_rfl
        case w41 => rfl
        case y41 => (intro u hu; (go_simp) <;> with_reducible rfl)
        try simp only [Act.put, List.setIfInBounds_toArray, List.set_cons_zero, List.set_cons_succ]
        refine wpAnyH_take (i := 42) (oi := ?o42) (v := ?v42) ?h42 (by kernel_rfl) ?f42 ?r42 (fun _ _ _ h => h) (Or.inl ⟨?w42, ?y42⟩) (by assumption) ?t42
        case h42 => simp only [List.getElem?_toArray, List.getElem?_cons_succ, List.getElem?_cons_zero]; rfl
        case f42 => kernel_rfl
        case r42 => kernel_rfl
        case w42 => rfl
        case y42 => (intro u hu; (go_simp) <;> with_reducible rfl)
        try simp only [Act.put, List.setIfInBounds_toArray, List.set_cons_zero, List.set_cons_succ]
        refine wpAnyH_done (by kernel_rfl) ?_ _
        refine NoPanic.normal ?_
        go_wp2
        go_ret
        exact ⟨rfl, E0.out.trans HE.out⟩
      case m27 =>
        refine AllReadyH.cons (o := ?o30z) ?h30z (fun K hK => ?_) AllReadyH.nil
        case h30z => simp only [List.getElem?_toArray, List.getElem?_cons_succ, List.getElem?_cons_zero]; rfl
        go_simp
        obtain ⟨w30, hww30⟩ : ∃ u : World, u = w11.alloc (.cells (madeCells #[.int .u8 0] mj) 5) := ⟨_, rfl⟩
        rw [← hww30]
        have hbw30 : Below w11.heap.size w11 w30 := by rw [hww30]; exact (Below.refl _ _).alloc (Nat.le_refl _) _
        have RZ : Hid (Rd w30 (some ⟨w11.heap.size, 0, none⟩) mj mj (List.replicate mj 0)) := by
          unfold Hid
          rw [hww30]
          exact rd_zeros w11 mj
        clear hww30
        refine hK.out _ _ (Ext.trans hH hbw30) (fun hH' => ?_)
        clear hK K
        refine wpAnyH_mono (S' := Ext w30) (fun u hu => Ext.trans hH' hu) ?_
        replace HE : Hid (Ext wr0 w30) := Ext.trans HE.out hbw30
        clear hH hH' hbw30
        have hH := Ext.refl w30
        refine wpAnyH_ready (rs := [27]) (by kernel_rfl) (by simp) ?_
        refine AllReadyH.cons (o := ?o27y) ?h27y (fun K hK => ?_) AllReadyH.nil
        case h27y => simp only [List.getElem?_toArray, List.getElem?_cons_succ, List.getElem?_cons_zero]; rfl
        go_simp
        refine (xor_o _ _ _ F _ _ _ F _ (RJ.out.below HE.out) (RJ.out.below HE.out) (by omega) (by omega)).mono ?_
        rintro e w27 ⟨gx, mx, rfl, hmx, hoo, hrx, hbx⟩
        have emx : mx = mj := by have := hmx.out; omega
        rw [emx]
        have RXX : Hid (Rd w27 (some ⟨gx, 0, none⟩) mj mj (List.replicate mj 0)) := by
          have e0 := xorL_self HF.out
          rw [← HMJ.out] at e0
          unfold Hid
          rw [← e0, ← emx]
          exact hrx
        clear hrx hmx hoo emx mx
        have hbx' : Below w30.heap.size w30 w27 := hbx
        refine hK.out _ _ (Ext.trans hH hbx) (fun hH' => ?_)
        clear hK K
        refine wpAnyH_mono (S' := Ext w27) (fun u hu => Ext.trans hH' hu) ?_
        replace HE : Hid (Ext wr0 w27) := Ext.trans HE.out hbx
        clear hH hH' hbx
        have hH := Ext.refl w27
        refine wpAnyH_ready (rs := [31]) (by kernel_rfl) (by simp) ?_
        refine AllReadyH.cons (o := ?o31y) ?h31y (fun K hK => ?_) AllReadyH.nil
        case h31y => simp only [List.getElem?_toArray, List.getElem?_cons_succ, List.getElem?_cons_zero]; rfl
        go_simp
        refine (same_any _ _ _ (List.replicate mj 0) _ _ _ (List.replicate mj 0) _ RXX.out ((RZ.out.below hbx')) (by omega) (by omega)).mono ?_
        rintro e w31 ⟨rfl, hb31⟩
        refine hK.out _ _ (Ext.trans hH hb31) (fun hH' => ?_)
        clear hK K
        refine wpAnyH_mono (S' := Ext w31) (fun u hu => Ext.trans hH' hu) ?_
        replace HE : Hid (Ext wr0 w31) := Ext.trans HE.out hb31
        clear hH hH' hb31
        have hH := Ext.refl w31
        refine wpAnyH_take (i := 32) (oi := ?o32y) (v := ?v32y) ?h32y (by kernel_rfl) ?f32y ?r32y (fun _ _ _ h => h) (Or.inl ⟨?w32y, ?y32y⟩) (by assumption) ?t32y
        case h32y => simp only [List.getElem?_toArray, List.getElem?_cons_succ, List.getElem?_cons_zero]; rfl
        case f32y => kernel_rfl
        case r32y => kernel_rfl
        case w32y => rfl
        case y32y => (intro u hu; (go_simp) <;> with_reducible rfl)
        try simp only [Act.put, List.setIfInBounds_toArray, List.set_cons_zero, List.set_cons_succ]
        refine wpAnyH_take (i := 33) (oi := ?o33y) (v := ?v33y) ?h33y (by kernel_rfl) ?f33y ?r33y (fun _ _ _ h => h) (Or.inl ⟨?w33y, ?y33y⟩) (by assumption) ?t33y
        case h33y => simp only [List.getElem?_toArray, List.getElem?_cons_succ, List.getElem?_cons_zero]; rfl
        case f33y => kernel_rfl
        case r33y => kernel_rfl
        case w33y => rfl
        case y33y => (intro u hu; (go_simp) <;> with_reducible rfl)
        try simp only [Act.put, List.setIfInBounds_toArray, List.set_cons_zero, List.set_cons_succ]
        refine wpAnyH_take (i := 34) (oi := ?o34y) (v := ?v34y) ?h34y (by kernel_rfl) ?f34y ?r34y (fun _ _ _ h => h) (Or.inl ⟨?w34y, ?y34y⟩) (by assumption) ?t34y
        case h34y => simp only [List.getElem?_toArray, List.getElem?_cons_succ, List.getElem?_cons_zero]; rfl
        case f34y => kernel_rfl
        case r34y => kernel_rfl
        case w34y => rfl
        case y34y => (intro u hu; (go_simp) <;> with_reducible rfl)
        try simp only [Act.put, List.setIfInBounds_toArray, List.set_cons_zero, List.set_cons_succ]
        refine wpAnyH_take (i := 37) (oi := ?o37y) (v := ?v37y) ?h37y (by kernel_rfl) ?f37y ?r37y (fun _ _ _ h => h) (Or.inl ⟨?w37y, ?y37y⟩) (by assumption) ?t37y
        case h37y => simp only [List.getElem?_toArray, List.getElem?_cons_succ, List.getElem?_cons_zero]; rfl
        case f37y => kernel_rfl
        case r37y => kernel_rfl
        case w37y => rfl
        case y37y => (intro u hu; (go_simp) <;> with_reducible rfl)
        try simp only [Act.put, List.setIfInBounds_toArray, List.set_cons_zero, List.set_cons_succ]
        refine wpAnyH_take (i := 38) (oi := ?o38y) (v := ?v38y) ?h38y (by kernel_rfl) ?f38y ?r38y (fun _ _ _ h => h) (Or.inl ⟨?w38y, ?y38y⟩) (by assumption) ?t38y
        case h38y => simp only [List.getElem?_toArray, List.getElem?_cons_succ, List.getElem?_cons_zero]; rfl
        case f38y => kernel_rfl
        case r38y => kernel_rfl
        case w38y => rfl
        case y38y => (intro u hu; (go_simp) <;> with_reducible rfl)
        try simp only [Act.put, List.setIfInBounds_toArray, List.set_cons_zero, List.set_cons_succ]
        refine wpAnyH_take (i := 39) (oi := ?o39y) (v := ?v39y) ?h39y (by kernel_rfl) ?f39y ?r39y (fun _ _ _ h => h) (Or.inl ⟨?w39y, ?y39y⟩) (by assumption) ?t39y
        case h39y => simp only [List.getElem?_toArray, List.getElem?_cons_succ, List.getElem?_cons_zero]; rfl
        case f39y => kernel_rfl
        case r39y => kernel_rfl
        case w39y => rfl
        case y39y => (intro u hu; (go_simp) <;> with_reducible rfl)
        try simp only [Act.put, List.setIfInBounds_toArray, List.set_cons_zero, List.set_cons_succ]
        refine wpAnyH_ready (rs := [35]) (by kernel_rfl) (by simp) ?_
        refine AllReadyH.cons (o := ?o35y) ?h35y (fun K hK => ?_) AllReadyH.nil
        case h35y => simp only [List.getElem?_toArray, List.getElem?_cons_succ, List.getElem?_cons_zero]; rfl
        go_simp
        refine (few_long _ _ _ F _ (RJ.out.below HE.out) (by omega) (by omega)).mono ?_
        rintro e w35 ⟨a35, c35, rfl, hb35⟩
        refine hK.out _ _ (Ext.trans hH hb35) (fun hH' => ?_)
        clear hK K
        refine wpAnyH_mono (S' := Ext w35) (fun u hu => Ext.trans hH' hu) ?_
        replace HE : Hid (Ext wr0 w35) := Ext.trans HE.out hb35
        clear hH hH' hb35
        have hH := Ext.refl w35
        refine wpAnyH_take (i := 36) (oi := ?o36y) (v := ?v36y) ?h36y (by kernel_rfl) ?f36y ?r36y (fun _ _ _ h => h) (Or.inl ⟨?w36y, ?y36y⟩) (by assumption) ?t36y
        case h36y => simp only [List.getElem?_toArray, List.getElem?_cons_succ, List.getElem?_cons_zero]; rfl
        case f36y => kernel_rfl
        case r36y => kernel_rfl
        case w36y => rfl
        case y36y => (intro u hu; (go_simp) <;> with_reducible rfl)
        try simp only [Act.put, List.setIfInBounds_toArray, List.set_cons_zero, List.set_cons_succ]
        refine wpAnyH_take (i := 40) (oi := ?o40y) (v := ?v40y) ?h40y (by kernel_rfl) ?f40y ?r40y (fun _ _ _ h => h) (Or.inl ⟨?w40y, ?y40y⟩) (by assumption) ?t40y
        case h40y => simp only [List.getElem?_toArray, List.getElem?_cons_succ, List.getElem?_cons_zero]; rfl
        case f40y => kernel_rfl
        case r40y => kernel_rfl
        case w40y => rfl
        case y40y => (intro u hu; (go_simp) <;> with_reducible rfl)
        try simp only [Act.put, List.setIfInBounds_toArray, List.set_cons_zero, List.set_cons_succ]
        refine wpAnyH_take (i := 41) (oi := ?o41y) (v := ?v41y) ?h41y (by kernel_rfl) ?f41y ?r41y (fun _ _ _ h => h) (Or.inl ⟨?w41y, ?y41y⟩) (by assumption) ?t41y
        case h41y => simp only [List.getElem?_toArray, List.getElem?_cons_succ, List.getElem?_cons_zero]; rfl
        case f41y => kernel_rfl
        case r41y => kernel_rfl
        case w41y => rfl
        case y41y => (intro u hu; (go_simp) <;> with_reducible rfl)
        try simp only [Act.put, List.setIfInBounds_toArray, List.set_cons_zero, List.set_cons_succ]
        refine wpAnyH_take (i := 42) (oi := ?o42y) (v := ?v42y) ?h42y (by kernel_rfl) ?f42y ?r42y (fun _ _ _ h => h) (Or.inl ⟨?w42y, ?y42y⟩) (by assumption) ?t42y
        case h42y => simp only [List.getElem?_toArray, List.getElem?_cons_succ, List.getElem?_cons_zero]; rfl
        case f42y => kernel_rfl
        case r42y => kernel_rfl
        case w42y => rfl
        case y42y => (intro u hu; (go_simp) <;> with_reducible rfl)
        try simp only [Act.put, List.setIfInBounds_toArray, List.set_cons_zero, List.set_cons_succ]
        refine wpAnyH_done (by kernel_rfl) ?_ _
        refine NoPanic.normal ?_
        go_wp2
        go_ret
        exact ⟨rfl, E0.out.trans HE.out⟩
end Go.Proofs.Ytdndgjacpnjjaaa
