/-
  SymmPlain's walk. No statement of the seat is proved here.
-/
import Derived.Test.YtmibjgkakolhiaaDoorPk33
import Derived.Test.YtmibjgkakolhiaaDoorYSeal
import Derived.Test.YtmibjgkakolhiaaDoorPk44
import Derived.Test.YtmibjgkakolhiaaDoorPk46
namespace Go.Proofs.YtmibjgkakolhiaaDoor
open Go.RowKit

set_option maxRecDepth 8000 in
set_option maxHeartbeats 8000000 in
theorem symmPlain_walk (aT : Option Addr) (lt ct : Nat) (tl : List (List Int)) (hfew : Few9 tl) (w : World) (ht : RdL w aT lt tl) (hg : Gb w) :
    Calls Tryd.prog 6 #[.slice aT lt ct] w fun e w' => e = .returned (.bool true) ∧ Below w.heap.size w w' := by
  have HT : Hid (RdL w aT lt tl) := ht
  have HF : Hid (Few9 tl) := hfew
  have HG : Hid (Gb w) := hg
  have hg0 := hg.ivlt
  have hg1 := hg.sglt
  clear ht hfew hg
  go_enter Tryd.func6, Tryd.ntmps6
  go_wp2_with fail
  refine (new10_c { data := #[120] } _ HG.out (by decide)).mono ?_
  rintro e V1 ⟨ba, N, rfl, kba, HN, Sa, hb⟩
  have HB : Hid (Below w.heap.size w V1) := hb
  clear hb
  go_wp2_with fail
  refine (new10_c { data := #[120] } _ (HG.out.later HB.out) (by decide)).mono ?_
  rintro e V2 ⟨bb, N2, rfl, kbb, HN2, Sb, hb⟩
  have hab : ba < bb := by have := Sa.out.lt; omega
  replace kbb : w.heap.size ≤ bb := Nat.le_trans HB.out.size kbb
  replace Sa : Hid (My V2 ba z9l false 0 N N) := Sa.out.later hb
  replace HB : Hid (Below w.heap.size w V2) := HB.out.trans (hb.mono HB.out.size)
  clear hb
  have hN2 : N2 = N := by rw [HN2.out, HN.out]
  subst hN2
  clear HN HN2
  go_wp2_with fail
  refine (known10_any _ (HG.out.later HB.out)).mono ?_
  rintro e V3 ⟨rfl, hb⟩
  replace Sa : Hid (My V3 ba z9l false 0 N2 N2) := Sa.out.later hb
  replace Sb : Hid (My V3 bb z9l false 0 N2 N2) := Sb.out.later hb
  replace HB : Hid (Below w.heap.size w V3) := HB.out.trans (hb.mono HB.out.size)
  clear hb
  go_wp2
  go_loopw [5] (fun iv wr => ∃ (k : Nat) (H : List Int), iv = .int .i64 k ∧ k ≤ 10 ∧ Hid (My wr ba z9l false 0 H N2) ∧ Hid (My wr bb z9l false 0 H N2) ∧ Hid (Below w.heap.size w wr)) (fun iv _ => 10 - (intOf iv).toNat)
  case atStart => exact ⟨0, N2, rfl, by decide, Sa, Sb, HB⟩
  case round =>
    clear Sa Sb HB
    obtain ⟨k, H, rfl, hk10, Sa, Sb, HB⟩ := hrel
    by_cases h1 : k < lt
    · have q1 : (k : Int) < lt := by omega
      by_cases h2 : k < 10
      · have q2 : (k : Int) < 10 := by omega
        obtain ⟨bT, oT, rfl, hcT⟩ := HT.out.cell (by omega)
        obtain ⟨ai, ni, ci, ct', hrd⟩ := hcT k h1
        obtain ⟨tx, htx⟩ : ∃ x, x = tl[k]?.getD [] := ⟨_, rfl⟩
        have hni : ni ≤ 140737488351232 := by have := HF.out k; rw [hrd.hlen] at this; exact this
        rw [← htx] at hrd
        have HRD : Hid (Rd w ai ni ci tx) := hrd
        have HCT : Hid (w.cell? ⟨bT, oT + k, none⟩ = some (.slice ai ni ci)) := ct'
        clear hcT hrd htx ct'
        have ct := cell_later HB.out HCT.out
        have kbq := Sb.out.lt
        go_wp2_with fail
        refine (seal10_c ba z9l false 0 H N2 ai ni ci tx _ Sa.out (HRD.out.below HB.out) (HG.out.later HB.out) (by have := hg0; omega) (by have := hg1; omega) hni).mono ?_
        rintro e V7 ⟨a1, m1, c1, X, E, n', rfl, HX, HE, HN', RX, HS', hb, hfr, -⟩
        have hX : X = tx := HX.out
        have hE : E = 0 := HE.out
        have hn' : n' = 0 := HN'.out
        subst hX hE hn'
        replace Sa := HS'
        have HFR : Hid (Fr wr.heap.size a1 m1) := hfr
        clear HS' HX HE HN' hfr ct
        replace Sb : Hid (My V7 bb z9l false 0 H N2) := Sb.out.extb hb (by omega)
        have HFb : Hid (Nq bb a1 m1) := HFR.out.nq kbq
        replace HB : Hid (Below w.heap.size w V7) := hb.below HB.out (by omega)
        clear hb HFR kbq
        have ct := cell_later HB.out HCT.out
        go_wp2_with fail
        refine (mixhash10_c bb z9l false 0 H N2 ai ni ci X _ Sb.out (HRD.out.below HB.out) (HG.out.later HB.out) (by omega)).mono ?_
        rintro e V8 ⟨rfl, HS', hb⟩
        replace Sb := HS'
        replace RX : Hid (Rd V8 a1 m1 c1 X) := RX.out.nq hb HFb.out
        replace Sa : Hid (My V8 ba z9l false 0 (h10 0 H X) N2) := Sa.out.extb hb (by omega)
        replace HB : Hid (Below w.heap.size w V8) := hb.below HB.out (by omega)
        clear HS' hb HFb ct
        obtain ⟨K1, hK0⟩ : ∃ q, q = sum7 (H ++ X) := ⟨_, rfl⟩
        have e10 : h10 0 H X = sum7 (H ++ X) := by unfold h10; rw [if_pos rfl]
        rw [e10, ← hK0] at Sa
        rw [← hK0] at Sb
        clear e10 hK0
        have ct := cell_later HB.out HCT.out
        go_upto_region 10 with fail
        refine wp_region_noPanic ?_
        refine wp_region_held_drew (S := Ext V8) (by kernel_rfl) (Ext.refl _).drew (fun hH => ?_)
        change wpAnyH _ _ _ _ _ _ #[false, false, false, false, false, false, false, false, false, false, false, false, false, false, false, false, false, false, false] _ _
        refine wpAnyH_take (i := 0) (oi := ?o0f) (v := ?v0f) ?h0f (by kernel_rfl) ?f0f ?r0f (fun _ _ _ h => h) (Or.inl ⟨?w0f, ?y0f⟩) (by assumption) ?t0f
        case h0f => simp only [List.getElem?_toArray]; rfl
        case f0f => kernel_rfl
        case r0f => kernel_rfl
        case w0f => rfl
        case y0f => (intro u hu; (go_simp) <;> with_reducible rfl)
        try simp only [Act.put, List.setIfInBounds_toArray, List.set_cons_zero, List.set_cons_succ]
        refine wpAnyH_take (i := 1) (oi := ?o1f) (v := ?v1f) ?h1f (by kernel_rfl) ?f1f ?r1f (fun _ _ _ h => h) (Or.inl ⟨?w1f, ?y1f⟩) (by assumption) ?t1f
        case h1f => simp only [List.getElem?_toArray]; rfl
        case f1f => kernel_rfl
        case r1f => kernel_rfl
        case w1f => rfl
        case y1f => (intro u hu; (go_simp) <;> with_reducible rfl)
        try simp only [Act.put, List.setIfInBounds_toArray, List.set_cons_zero, List.set_cons_succ]
        refine wpAnyH_take (i := 2) (oi := ?o2f) (v := ?v2f) ?h2f (by kernel_rfl) ?f2f ?r2f (fun _ _ _ h => h) (Or.inl ⟨?w2f, ?y2f⟩) (by assumption) ?t2f
        case h2f => simp only [List.getElem?_toArray]; rfl
        case f2f => kernel_rfl
        case r2f => kernel_rfl
        case w2f => rfl
        case y2f => (intro u hu; (go_simp) <;> with_reducible rfl)
        try simp only [Act.put, List.setIfInBounds_toArray, List.set_cons_zero, List.set_cons_succ]
        refine wpAnyH_take (i := 3) (oi := ?o3f) (v := ?v3f) ?h3f (by kernel_rfl) ?f3f ?r3f (fun _ _ _ h => h) (Or.inl ⟨?w3f, ?y3f⟩) (by assumption) ?t3f
        case h3f => simp only [List.getElem?_toArray]; rfl
        case f3f => kernel_rfl
        case r3f => kernel_rfl
        case w3f => rfl
        case y3f => (intro u hu; (go_simp) <;> with_reducible rfl)
        try simp only [Act.put, List.setIfInBounds_toArray, List.set_cons_zero, List.set_cons_succ]
        have s1 : ∀ u, Ext V8 u → (convert 35 9 (.slice a1 m1 c1)).run Tryd.prog u = .ok (.string (strOfNums X)) u := fun u hu => str_of (RX.out.below hu)
        refine wpAnyH_take (i := 4) (oi := ?o4f) (v := ?v4f) ?h4f (by kernel_rfl) ?f4f ?r4f (fun _ _ _ h => h) (Or.inl ⟨?w4f, ?y4f⟩) (by assumption) ?t4f
        case h4f => simp only [List.getElem?_toArray]; rfl
        case f4f => kernel_rfl
        case r4f => kernel_rfl
        case w4f => rfl
        case y4f => (intro u hu; (go_simp) <;> with_reducible rfl)
        try simp only [Act.put, List.setIfInBounds_toArray, List.set_cons_zero, List.set_cons_succ]
        clear s1
        refine wpAnyH_take (i := 5) (oi := ?o5f) (v := ?v5f) ?h5f (by kernel_rfl) ?f5f ?r5f (fun _ _ _ h => h) (Or.inl ⟨?w5f, ?y5f⟩) (by assumption) ?t5f
        case h5f => simp only [List.getElem?_toArray]; rfl
        case f5f => kernel_rfl
        case r5f => kernel_rfl
        case w5f => rfl
        case y5f => (intro u hu; (go_simp) <;> with_reducible rfl)
        try simp only [Act.put, List.setIfInBounds_toArray, List.set_cons_zero, List.set_cons_succ]
        refine wpAnyH_take (i := 6) (oi := ?o6f) (v := ?v6f) ?h6f (by kernel_rfl) ?f6f ?r6f (fun _ _ _ h => h) (Or.inl ⟨?w6f, ?y6f⟩) (by assumption) ?t6f
        case h6f => simp only [List.getElem?_toArray]; rfl
        case f6f => kernel_rfl
        case r6f => kernel_rfl
        case w6f => rfl
        case y6f => (intro u hu; (go_simp) <;> with_reducible rfl)
        try simp only [Act.put, List.setIfInBounds_toArray, List.set_cons_zero, List.set_cons_succ]
        refine wpAnyH_take (i := 7) (oi := ?o7f) (v := ?v7f) ?h7f (by kernel_rfl) ?f7f ?r7f (fun _ _ _ h => h) (Or.inl ⟨?w7f, ?y7f⟩) (by assumption) ?t7f
        case h7f => simp only [List.getElem?_toArray]; rfl
        case f7f => kernel_rfl
        case r7f => kernel_rfl
        case w7f => rfl
        case y7f => (intro u hu; (go_simp) <;> with_reducible rfl)
        try simp only [Act.put, List.setIfInBounds_toArray, List.set_cons_zero, List.set_cons_succ]
        have xx : ∀ u, Ext V8 u → u.cell? ⟨bT, oT + k, none⟩ = some (.slice ai ni ci) := fun u hu => hu.cell ct
        refine wpAnyH_take (i := 8) (oi := ?o8f) (v := ?v8f) ?h8f (by kernel_rfl) ?f8f ?r8f (fun _ _ _ h => h) (Or.inl ⟨?w8f, ?y8f⟩) (by assumption) ?t8f
        case h8f => simp only [List.getElem?_toArray]; rfl
        case f8f => kernel_rfl
        case r8f => kernel_rfl
        case w8f => rfl
        case y8f => (intro u hu; (have hx := xx u hu; go_simp) <;> with_reducible rfl)
        try simp only [Act.put, List.setIfInBounds_toArray, List.set_cons_zero, List.set_cons_succ]
        clear xx
        have s2 : ∀ u, Ext V8 u → (convert 35 9 (.slice ai ni ci)).run Tryd.prog u = .ok (.string (strOfNums X)) u := fun u hu => str_of ((HRD.out.below HB.out).below hu)
        refine wpAnyH_take (i := 9) (oi := ?o9f) (v := ?v9f) ?h9f (by kernel_rfl) ?f9f ?r9f (fun _ _ _ h => h) (Or.inl ⟨?w9f, ?y9f⟩) (by assumption) ?t9f
        case h9f => simp only [List.getElem?_toArray]; rfl
        case f9f => kernel_rfl
        case r9f => kernel_rfl
        case w9f => rfl
        case y9f => (intro u hu; (go_simp) <;> with_reducible rfl)
        try simp only [Act.put, List.setIfInBounds_toArray, List.set_cons_zero, List.set_cons_succ]
        clear s2
        refine wpAnyH_take (i := 10) (oi := ?o10f) (v := ?v10f) ?h10f (by kernel_rfl) ?f10f ?r10f (fun _ _ _ h => h) (Or.inl ⟨?w10f, ?y10f⟩) (by assumption) ?t10f
        case h10f => simp only [List.getElem?_toArray]; rfl
        case f10f => kernel_rfl
        case r10f => kernel_rfl
        case w10f => rfl
        case y10f => (intro u hu; (go_simp) <;> with_reducible rfl)
        try simp only [Act.put, List.setIfInBounds_toArray, List.set_cons_zero, List.set_cons_succ]
        refine wpAnyH_take (i := 11) (oi := ?o11f) (v := ?v11f) ?h11f (by kernel_rfl) ?f11f ?r11f (fun _ _ _ h => h) (Or.inl ⟨?w11f, ?y11f⟩) (by assumption) ?t11f
        case h11f => simp only [List.getElem?_toArray]; rfl
        case f11f => kernel_rfl
        case r11f => kernel_rfl
        case w11f => rfl
        case y11f => (intro u hu; (go_simp) <;> with_reducible rfl)
        try simp only [Act.put, List.setIfInBounds_toArray, List.set_cons_zero, List.set_cons_succ]
        refine wpAnyH_take (i := 12) (oi := ?o12f) (v := ?v12f) ?h12f (by kernel_rfl) ?f12f ?r12f (fun _ _ _ h => h) (Or.inl ⟨?w12f, ?y12f⟩) (by assumption) ?t12f
        case h12f => simp only [List.getElem?_toArray]; rfl
        case f12f => kernel_rfl
        case r12f => kernel_rfl
        case w12f => rfl
        case y12f => (intro u hu; (go_simp) <;> with_reducible rfl)
        try simp only [Act.put, List.setIfInBounds_toArray, List.set_cons_zero, List.set_cons_succ]
        refine wpAnyH_take (i := 13) (oi := ?o13f) (v := ?v13f) ?h13f (by kernel_rfl) ?f13f ?r13f (fun _ _ _ h => h) (Or.inl ⟨?w13f, ?y13f⟩) (by assumption) ?t13f
        case h13f => simp only [List.getElem?_toArray]; rfl
        case f13f => kernel_rfl
        case r13f => kernel_rfl
        case w13f => rfl
        case y13f => (intro u hu; (go_simp) <;> with_reducible rfl)
        try simp only [Act.put, List.setIfInBounds_toArray, List.set_cons_zero, List.set_cons_succ]
        refine wpAnyH_take (i := 15) (oi := ?o15f) (v := ?v15f) ?h15f (by kernel_rfl) ?f15f ?r15f (fun _ _ _ h => h) (Or.inl ⟨?w15f, ?y15f⟩) (by assumption) ?t15f
        case h15f => simp only [List.getElem?_toArray]; rfl
        case f15f => kernel_rfl
        case r15f => kernel_rfl
        case w15f => rfl
        case y15f => (intro u hu; (go_simp) <;> with_reducible rfl)
        try simp only [Act.put, List.setIfInBounds_toArray, List.set_cons_zero, List.set_cons_succ]
        refine wpAnyH_ready (rs := [14]) (by kernel_rfl) (by simp) ?_
        refine AllReadyH.cons (o := ?o14f) ?h14f (fun K hK => ?_) AllReadyH.nil
        case h14f => simp only [List.getElem?_toArray]; rfl
        go_simp
        refine (hash10_c ba z9l false 0 K1 N2 _ (Sa.out.later hH)).mono ?_
        rintro e V9 ⟨rfl, hb⟩
        refine hK.out _ _ (hH.trans hb) (fun hH' => ?_)
        clear hK K hH
        have hH := hH'
        clear hH'
        try simp only [List.setIfInBounds_toArray, List.set]
        clear hb
        refine wpAnyH_ready (rs := [16]) (by kernel_rfl) (by simp) ?_
        refine AllReadyH.cons (o := ?o16f) ?h16f (fun K hK => ?_) AllReadyH.nil
        case h16f => simp only [List.getElem?_toArray]; rfl
        go_simp
        refine (hash10_c bb z9l false 0 K1 N2 _ (Sb.out.later hH)).mono ?_
        rintro e VA ⟨rfl, hb⟩
        refine hK.out _ _ (hH.trans hb) (fun hH' => ?_)
        clear hK K hH
        have hH := hH'
        clear hH'
        try simp only [List.setIfInBounds_toArray, List.set]
        clear hb
        have hne : ∀ u, Sem.run Tryd.prog (binOp .neq 27 (.agg (List.map (Value.int .u8) K1).toArray) (.agg (List.map (Value.int .u8) K1).toArray)) u = .ok (.bool false) u := fun u => neq32 K1 K1 Sa.out.bh (rfl) u
        refine wpAnyH_take (i := 17) (oi := ?o17f) (v := ?v17f) ?h17f (by kernel_rfl) ?f17f ?r17f (fun _ _ _ h => h) (Or.inl ⟨?w17f, ?y17f⟩) (by assumption) ?t17f
        case h17f => simp only [List.getElem?_toArray]; rfl
        case f17f => kernel_rfl
        case r17f => kernel_rfl
        case w17f => rfl
        case y17f => (intro u hu; (go_simp) <;> with_reducible rfl)
        try simp only [Act.put, List.setIfInBounds_toArray, List.set_cons_zero, List.set_cons_succ]
        refine wpAnyH_take (i := 18) (oi := ?o18f) (v := ?v18f) ?h18f (by kernel_rfl) ?f18f ?r18f (fun _ _ _ h => h) (Or.inl ⟨?w18f, ?y18f⟩) (by assumption) ?t18f
        case h18f => simp only [List.getElem?_toArray]; rfl
        case f18f => kernel_rfl
        case r18f => kernel_rfl
        case w18f => rfl
        case y18f => (intro u hu; (go_simp) <;> with_reducible rfl)
        try simp only [Act.put, List.setIfInBounds_toArray, List.set_cons_zero, List.set_cons_succ]
        refine wpAnyH_done (by kernel_rfl) ?_ _
        refine NoPanic.normal ?_
        have hb2 : Below V8.heap.size V8 _ := hH
        replace Sa := Sa.out.later hb2
        replace Sb := Sb.out.later hb2
        replace HB : Hid (Below w.heap.size w _) := HB.out.trans (hb2.mono HB.out.size)
        clear hb2 hH hne RX ct
        go_wp2
        go_roundw
        case rel => exact ⟨k + 1, K1, by go_num, by omega, Sa, Sb, HB⟩
        case measure => simp [intOf]; omega
      · have q2 : ¬ (k : Int) < 10 := by omega
        go_wp2_with fail
        refine (split10_c ba z9l false 0 H N2 _ Sa.out (HG.out.later HB.out)).mono ?_
        rintro e V7 ⟨c, d, A, B, rfl, -, -, HSc, -, -, -, -, hb⟩
        replace HB : Hid (Below w.heap.size w V7) := HB.out.trans (hb.mono HB.out.size)
        clear hb
        go_wp2_with fail
        refine (nonce9_c c A true 0 _ HSc.out).mono ?_
        rintro e V9 ⟨rfl, hw⟩
        rw [hw]
        clear hw V9
        go_wp2
        go_ret
        exact ⟨rfl, HB.out⟩
    · have q1 : ¬ (k : Int) < lt := by omega
      go_wp2_with fail
      refine (split10_c ba z9l false 0 H N2 _ Sa.out (HG.out.later HB.out)).mono ?_
      rintro e V7 ⟨c, d, A, B, rfl, -, -, HSc, -, -, -, -, hb⟩
      replace HB : Hid (Below w.heap.size w V7) := HB.out.trans (hb.mono HB.out.size)
      clear hb
      go_wp2_with fail
      refine (nonce9_c c A true 0 _ HSc.out).mono ?_
      rintro e V9 ⟨rfl, hw⟩
      rw [hw]
      clear hw V9
      go_wp2
      go_ret
      exact ⟨rfl, HB.out⟩
end Go.Proofs.YtmibjgkakolhiaaDoor
