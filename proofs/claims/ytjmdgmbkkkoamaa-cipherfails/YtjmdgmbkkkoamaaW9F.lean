/-
  CipherFails' walk. No statement of the seat is proved here.
-/
import Derived.Test.YtjmdgmbkkkoamaaVKn
import Derived.Test.YtjmdgmbkkkoamaaVOpen
import Derived.Test.YtjmdgmbkkkoamaaKLs
namespace Go.Proofs.Ytjmdgmbkkkoamaa
open Go.RowKit

set_option maxRecDepth 8000 in
set_option maxHeartbeats 8000000 in
theorem cipherFails_walk (key : List Int) (aT : Option Addr) (lT cT : Nat) (tl : List (List Int)) (at' : Option Addr) (lt ct : Nat) (text : List Int) (hk : Bn 32 key) (hfew : Few9 tl) (hm : lt ≤ 140737488351232) (w : World) (ht : RdL w aT lT tl) (hr : Rd w at' lt ct text) :
    Calls Try.prog 6 #[(.agg (List.map (Value.int .u8) key).toArray), .slice aT lT cT, .slice at' lt ct] w fun e w' => e = .returned (.bool true) ∧ Below w.heap.size w w' := by
  have HT : Hid (RdL w aT lT tl) := ht
  have HRT : Hid (Rd w at' lt ct text) := hr
  have HF : Hid (Few9 tl) := hfew
  clear ht hr hfew
  have HK : Hid (Bn 32 key) := hk
  clear hk
  obtain ⟨_, _, hiK⟩ := bn32_cells HK.out
  go_enter Try.func6, Try.ntmps6
  go_upto_region 1 with fail
  have AK : Hid (Ar (w.alloc (.cells (List.map (Value.int .u8) key).toArray 31)) w.heap.size 32 (List.map (Value.int .u8) key)) := ar_box w _ 32 HK.out.map_len _
  have HB : Hid (Below w.heap.size w (w.alloc (.cells (List.map (Value.int .u8) key).toArray 31))) := bel1 _ _
  obtain ⟨W0, hW0⟩ : ∃ W, W = (w.alloc (.cells (List.map (Value.int .u8) key).toArray 31)) := ⟨_, rfl⟩
  obtain ⟨q3, hq3⟩ : ∃ q, q = w.heap.size := ⟨_, rfl⟩
  rw [← hW0] at AK HB ⊢
  rw [← hq3] at AK ⊢
  have kq0 : q3 < W0.heap.size := AK.out.lt (by decide)
  clear hW0 hq3
  go_wp2_with fail
  refine (new9_c _).mono ?_
  rintro e V1 ⟨rfl, Ha, hb⟩
  obtain ⟨ba, hq⟩ : ∃ q, q = W0.heap.size := ⟨_, rfl⟩
  rw [← hq] at Ha ⊢
  have kaw : w.heap.size ≤ ba := by rw [hq]; exact HB.out.size
  have kqa : q3 < ba := by rw [hq]; exact AK.out.lt (by decide)
  clear hq
  replace AK : Hid (Ar V1 q3 32 (List.map (Value.int .u8) key)) := AK.out.later hb
  replace HB : Hid (Below w.heap.size w V1) := HB.out.trans (hb.mono HB.out.size)
  clear hb
  go_wp2_with fail
  refine (new9_c _).mono ?_
  rintro e V2 ⟨rfl, Hb, hb⟩
  obtain ⟨bb, hq⟩ : ∃ q, q = V1.heap.size := ⟨_, rfl⟩
  rw [← hq] at Hb ⊢
  have kbw : w.heap.size ≤ bb := by rw [hq]; exact HB.out.size
  have kba : ba < bb := by rw [hq]; exact Ha.out.lt
  have kqb : q3 < bb := by rw [hq]; exact AK.out.lt (by decide)
  clear hq
  replace Ha : Hid (Sx V2 ba z9l false 0) := Ha.out.later hb
  replace AK : Hid (Ar V2 q3 32 (List.map (Value.int .u8) key)) := AK.out.later hb
  replace HB : Hid (Below w.heap.size w V2) := HB.out.trans (hb.mono HB.out.size)
  clear hb
  go_wp2_with fail
  refine (known9_any _).mono ?_
  rintro e V3 ⟨rfl, hb⟩
  replace Ha : Hid (Sx V3 ba z9l false 0) := Ha.out.later hb
  replace Hb : Hid (Sx V3 bb z9l false 0) := Hb.out.later hb
  replace AK : Hid (Ar V3 q3 32 (List.map (Value.int .u8) key)) := AK.out.later hb
  replace HB : Hid (Below w.heap.size w V3) := HB.out.trans (hb.mono HB.out.size)
  clear hb
  have nab : ba ≠ bb := by omega
  go_wp2_with (refine wpList_load_mid rfl 31 (.tmp 3) rfl q3 0 rfl (List.map (Value.int .u8) key) _ AK.out.rng Try.underlying31 rfl hiK ?_)
  refine (init9_c ba z9l false 0 key HK.out _ Ha.out).mono ?_
  rintro e V4 ⟨rfl, HS', hb⟩
  replace Ha := HS'
  clear HS'
  replace Hb : Hid (Sx V4 bb z9l false 0) := Hb.out.extb hb (by omega)
  replace AK : Hid (Ar V4 q3 32 (List.map (Value.int .u8) key)) := AK.out.extb hb (by omega)
  replace HB : Hid (Below w.heap.size w V4) := hb.below HB.out (by omega)
  clear hb
  go_wp2_with (refine wpList_load_mid rfl 31 (.tmp 3) rfl q3 0 rfl (List.map (Value.int .u8) key) _ AK.out.rng Try.underlying31 rfl hiK ?_)
  refine (init9_c bb z9l false 0 key HK.out _ Hb.out).mono ?_
  rintro e V5 ⟨rfl, HS', hb⟩
  replace Hb := HS'
  clear HS'
  replace Ha : Hid (Sx V5 ba key true 0) := Ha.out.extb hb (by omega)
  replace AK : Hid (Ar V5 q3 32 (List.map (Value.int .u8) key)) := AK.out.extb hb (by omega)
  replace HB : Hid (Below w.heap.size w V5) := hb.below HB.out (by omega)
  clear hb
  go_wp2_with fail
  refine (seal9_yes ba key 0 none 0 0 [] at' lt ct text _ Ha.out (by decide) (Rd.nil _ _ _ (fun _ => rfl)) (HRT.out.below HB.out) (by decide) hm).mono ?_
  rintro e V6 ⟨gg, mg, Xg, n', rfl, hg, Hmg, HXg, -, Og, HS', hb⟩
  have hnag : bb ≠ gg := by have := Hb.out.lt; omega
  replace Og : Hid (Rd V6 (some ⟨gg, 0, none⟩) mg mg Xg) := Og.out.rd
  replace Ha := HS'
  clear HS' hg
  replace Hb : Hid (Sx V6 bb key true 0) := Hb.out.extb hb (by omega)
  replace AK : Hid (Ar V6 q3 32 (List.map (Value.int .u8) key)) := AK.out.extb hb (by omega)
  replace HB : Hid (Below w.heap.size w V6) := hb.below HB.out (by omega)
  clear hb
  clear Ha hiK
  go_wp2
  go_loopw [11] (fun iv wr => ∃ (k : Nat), iv = .int .i64 k ∧ k ≤ 8 ∧ Hid (Sx wr bb key true 0) ∧ Hid (Rd wr (some ⟨gg, 0, none⟩) mg mg Xg) ∧ Hid (Ar wr q3 32 (List.map (Value.int .u8) key)) ∧ Hid (Below w.heap.size w wr)) (fun iv _ => 8 - (intOf iv).toNat)
  case atStart => exact ⟨0, rfl, by decide, Hb, Og, AK, HB⟩
  case round =>
    clear Hb Og AK HB
    obtain ⟨k, rfl, hk8, Hb, Og, AK, HB⟩ := hrel
    by_cases hc : k < lT ∧ k < 8
    · obtain ⟨h1, h2⟩ := hc
      have q1 : (k : Int) < lT := by omega
      have q2 : (k : Int) < 8 := by omega
      obtain ⟨bT, oT, rfl, hcT⟩ := HT.out.cell (by omega)
      obtain ⟨ai, ni, ci, ct', hrd⟩ := hcT k h1
      obtain ⟨tx, htx⟩ : ∃ x, x = tl[k]?.getD [] := ⟨_, rfl⟩
      have hni : ni ≤ 140737488351232 := by have := HF.out k; rw [hrd.hlen] at this; exact this
      rw [← htx] at hrd
      have HRD : Hid (Rd w ai ni ci tx) := hrd
      clear hcT hrd htx
      have cx := cell_later HB.out ct'
      go_wp2_with fail
      refine (open9_yes bb key 0 none 0 0 [] ai ni ci tx _ Hb.out (by decide) (Rd.nil _ _ _ (fun _ => rfl)) (HRD.out.below HB.out) (by decide) (by omega)).mono ?_
      rintro e V41 ⟨aY, mY, cY, XY, EY, n2, rfl, HEY, -, HN2, -, HS', hb⟩
      replace Hb := HS'
      clear HS' cx
      replace Og : Hid (Rd V41 (some ⟨gg, 0, none⟩) mg mg Xg) := Og.out.extb hb (by omega)
      replace AK : Hid (Ar V41 q3 32 (List.map (Value.int .u8) key)) := AK.out.extb hb (by omega)
      replace HB : Hid (Below w.heap.size w V41) := hb.below HB.out (by omega)
      clear hb
      by_cases h0 : EY = 0
      · subst h0
        have cx := cell_later HB.out ct'
        obtain ⟨_, _, hiK⟩ := bn32_cells HK.out
        go_upto_region 13 with fail
        refine wp_region_noPanic ?_
        refine wp_region_held_drew (S := Ext V41) (by kernel_rfl) (Ext.refl _).drew (fun hH => ?_)
        change wpAnyH _ _ _ _ _ _ #[false, false, false, false, false, false, false, false, false, false, false, false] _ _
        refine wpAnyH_take (i := 0) (oi := ?o0f) (v := .agg (List.map (Value.int .u8) key).toArray) ?h0f (by kernel_rfl) ?f0f ?r0f (fun _ _ _ h => h) ?y0f (by assumption) ?t0f
        case h0f => simp only [List.getElem?_toArray]; rfl
        case f0f => kernel_rfl
        case r0f => kernel_rfl
        case y0f => exact yieldsIf_load_mid (by rfl) 31 (.tmp 3) rfl q3 0 rfl (List.map (Value.int .u8) key) _ (fun u hu => range_later hu AK.out.rng) Try.underlying31 rfl hiK
        try simp only [Act.put, List.setIfInBounds_toArray, List.set_cons_zero, List.set_cons_succ]
        have hcx : ∀ u, Ext V41 u → u.cell? ⟨bT, oT + k, none⟩ = some (.slice ai ni ci) := fun u hu => hu.cell cx
        refine wpAnyH_take (i := 2) (oi := ?o2f) (v := ?v2f) ?h2f (by kernel_rfl) ?f2f ?r2f (fun _ _ _ h => h) (Or.inl ⟨?w2f, ?y2f⟩) (by assumption) ?t2f
        case h2f => simp only [List.getElem?_toArray]; rfl
        case f2f => kernel_rfl
        case r2f => kernel_rfl
        case w2f => rfl
        case y2f => (intro u hu; (go_simp) <;> with_reducible rfl)
        try simp only [Act.put, List.setIfInBounds_toArray, List.set_cons_zero, List.set_cons_succ]
        refine wpAnyH_take (i := 3) (oi := ?o3f) (v := ?v3f) ?h3f (by kernel_rfl) ?f3f ?r3f (fun _ _ _ h => h) (Or.inl ⟨?w3f, ?y3f⟩) (by assumption) ?t3f
        case h3f => simp only [List.getElem?_toArray]; rfl
        case f3f => kernel_rfl
        case r3f => kernel_rfl
        case w3f => rfl
        case y3f => (intro u hu; (go_simp) <;> with_reducible rfl)
        try simp only [Act.put, List.setIfInBounds_toArray, List.set_cons_zero, List.set_cons_succ]
        refine wpAnyH_take (i := 4) (oi := ?o4f) (v := ?v4f) ?h4f (by kernel_rfl) ?f4f ?r4f (fun _ _ _ h => h) (Or.inl ⟨?w4f, ?y4f⟩) (by assumption) ?t4f
        case h4f => simp only [List.getElem?_toArray]; rfl
        case f4f => kernel_rfl
        case r4f => kernel_rfl
        case w4f => rfl
        case y4f => (intro u hu; (go_simp) <;> with_reducible rfl)
        try simp only [Act.put, List.setIfInBounds_toArray, List.set_cons_zero, List.set_cons_succ]
        refine wpAnyH_take (i := 5) (oi := ?o5f) (v := ?v5f) ?h5f (by kernel_rfl) ?f5f ?r5f (fun _ _ _ h => h) (Or.inl ⟨?w5f, ?y5f⟩) (by assumption) ?t5f
        case h5f => simp only [List.getElem?_toArray]; rfl
        case f5f => kernel_rfl
        case r5f => kernel_rfl
        case w5f => rfl
        case y5f => (intro u hu; (have hx := hcx u hu; go_simp) <;> with_reducible rfl)
        try simp only [Act.put, List.setIfInBounds_toArray, List.set_cons_zero, List.set_cons_succ]
        refine wpAnyH_ready (rs := [1]) (by kernel_rfl) (by simp) ?_
        refine AllReadyH.cons (o := ?o1f) ?h1f (fun K hK => ?_) AllReadyH.nil
        case h1f => simp only [List.getElem?_toArray]; rfl
        go_simp
        refine (nonce_c 0 (by decide) (by decide) _).mono ?_
        rintro e V60 ⟨N, rfl, HN, HNn, hb⟩
        refine hK.out _ _ (hH.trans hb) (fun hH' => ?_)
        clear hK K hH
        have hH := hH'
        clear hH'
        try simp only [List.setIfInBounds_toArray, List.set]
        clear hb
        refine wpAnyH_ready (rs := [6]) (by kernel_rfl) (by simp) ?_
        refine AllReadyH.cons (o := ?o6f) ?h6f (fun K hK => ?_) AllReadyH.nil
        case h6f => simp only [List.getElem?_toArray]; rfl
        go_simp
        refine (open_c key N none 0 0 [] ai ni ci tx HK.out HNn.out _ (Rd.nil _ _ _ (fun _ => rfl)) ((HRD.out.below HB.out).below hH) (by decide) (by omega)).mono ?_
        rintro e V61 ⟨a6, m6, c6, X6, E6, rfl, HE6, -, -, hb⟩
        refine hK.out _ _ (hH.trans hb) (fun hH' => ?_)
        clear hK K hH
        have hH := hH'
        clear hH'
        try simp only [List.setIfInBounds_toArray, List.set]
        clear hb
        refine wpAnyH_take (i := 7) (oi := ?o7f) (v := ?v7f) ?h7f (by kernel_rfl) ?f7f ?r7f (fun _ _ _ h => h) (Or.inl ⟨?w7f, ?y7f⟩) (by assumption) ?t7f
        case h7f => simp only [List.getElem?_toArray]; rfl
        case f7f => kernel_rfl
        case r7f => kernel_rfl
        case w7f => rfl
        case y7f => (intro u hu; (go_simp) <;> with_reducible rfl)
        try simp only [Act.put, List.setIfInBounds_toArray, List.set_cons_zero, List.set_cons_succ]
        refine wpAnyH_take (i := 8) (oi := ?o8f) (v := ?v8f) ?h8f (by kernel_rfl) ?f8f ?r8f (fun _ _ _ h => h) (Or.inl ⟨?w8f, ?y8f⟩) (by assumption) ?t8f
        case h8f => simp only [List.getElem?_toArray]; rfl
        case f8f => kernel_rfl
        case r8f => kernel_rfl
        case w8f => rfl
        case y8f => (intro u hu; (go_simp) <;> with_reducible rfl)
        try simp only [Act.put, List.setIfInBounds_toArray, List.set_cons_zero, List.set_cons_succ]
        refine wpAnyH_take (i := 9) (oi := ?o9f) (v := ?v9f) ?h9f (by kernel_rfl) ?f9f ?r9f (fun _ _ _ h => h) (Or.inl ⟨?w9f, ?y9f⟩) (by assumption) ?t9f
        case h9f => simp only [List.getElem?_toArray]; rfl
        case f9f => kernel_rfl
        case r9f => kernel_rfl
        case w9f => rfl
        case y9f => (intro u hu; (go_simp) <;> with_reducible rfl)
        try simp only [Act.put, List.setIfInBounds_toArray, List.set_cons_zero, List.set_cons_succ]
        refine wpAnyH_take (i := 10) (oi := ?o10f) (v := ?v10f) ?h10f (by kernel_rfl) ?f10f ?r10f (fun _ _ _ h => h) (Or.inl ⟨?w10f, ?y10f⟩) (by assumption) ?t10f
        case h10f => simp only [List.getElem?_toArray]; rfl
        case f10f => kernel_rfl
        case r10f => kernel_rfl
        case w10f => rfl
        case y10f => (intro u hu; (go_simp) <;> with_reducible rfl)
        try simp only [Act.put, List.setIfInBounds_toArray, List.set_cons_zero, List.set_cons_succ]
        refine wpAnyH_take (i := 11) (oi := ?o11f) (v := ?v11f) ?h11f (by kernel_rfl) ?f11f ?r11f (fun _ _ _ h => h) (Or.inl ⟨?w11f, ?y11f⟩) (by assumption) ?t11f
        case h11f => simp only [List.getElem?_toArray]; rfl
        case f11f => kernel_rfl
        case r11f => kernel_rfl
        case w11f => rfl
        case y11f => (intro u hu; (go_simp) <;> with_reducible rfl)
        try simp only [Act.put, List.setIfInBounds_toArray, List.set_cons_zero, List.set_cons_succ]
        refine wpAnyH_done (by kernel_rfl) ?_ _
        refine NoPanic.normal ?_
        have e6 : E6 = 0 := by rw [HE6.out, HN.out]; exact HEY.out.symm
        subst e6
        replace HB : Hid (Below w.heap.size w _) := HB.out.trans (Below.mono hH HB.out.size)
        clear hH hcx cx
        go_wp2
        go_ret
        exact ⟨rfl, HB.out⟩
      · have e2 : n2 = 0 := by rw [HN2.out, if_neg h0]
        subst e2
        go_wp2_with fail
        refine (nonce9_c bb key true 0 _ Hb.out).mono ?_
        rintro e V51 ⟨rfl, hw⟩
        rw [hw]
        clear hw V51
        go_wp2
        go_roundw
        case rel => exact ⟨k + 1, by go_num, by omega, Hb, Og, AK, HB⟩
        case measure => simp [intOf]; omega
    · rcases Decidable.not_and_iff_or_not.1 hc with h1 | h1
      · have q1 : ¬ (k : Int) < lT := by omega
        clear hc
        go_wp2_with fail
        refine (open9_yes bb key 0 none 0 0 [] (some ⟨gg, 0, none⟩) mg mg Xg _ Hb.out (by decide) (Rd.nil _ _ _ (fun _ => rfl)) Og.out (by decide) (by have := Hmg.out; omega)).mono ?_
        rintro e V71 ⟨aY, mY, cY, XY, EY, n2, rfl, HEY, HXY, HN2, RY, HS', hb⟩
        have e0 : EY = 0 := by rw [HEY.out, HXg.out, er6_back]
        subst e0
        have e1 : XY = text := by rw [HXY.out, HXg.out, op6_back _ _ _ HRT.out.byt]
        subst e1
        have e2 : n2 = 1 := by rw [HN2.out, if_pos rfl]; rfl
        subst e2
        replace Hb := HS'
        clear HS' HEY HXY HN2
        replace HB : Hid (Below w.heap.size w V71) := hb.below HB.out (by omega)
        clear hb
        have s1 := str_of RY.out
        have s2 := str_of (HRT.out.below HB.out)
        go_wp2_with fail
        refine (nonce9_c bb key true 1 _ Hb.out).mono ?_
        rintro e V72 ⟨rfl, hw⟩
        rw [hw]
        clear hw V72
        go_wp2
        go_ret
        exact ⟨rfl, HB.out⟩
      · by_cases h2 : k < lT
        · have q1 : (k : Int) < lT := by omega
          have q2 : ¬ (k : Int) < 8 := by omega
          clear hc
          go_wp2_with fail
          refine (open9_yes bb key 0 none 0 0 [] (some ⟨gg, 0, none⟩) mg mg Xg _ Hb.out (by decide) (Rd.nil _ _ _ (fun _ => rfl)) Og.out (by decide) (by have := Hmg.out; omega)).mono ?_
          rintro e V71 ⟨aY, mY, cY, XY, EY, n2, rfl, HEY, HXY, HN2, RY, HS', hb⟩
          have e0 : EY = 0 := by rw [HEY.out, HXg.out, er6_back]
          subst e0
          have e1 : XY = text := by rw [HXY.out, HXg.out, op6_back _ _ _ HRT.out.byt]
          subst e1
          have e2 : n2 = 1 := by rw [HN2.out, if_pos rfl]; rfl
          subst e2
          replace Hb := HS'
          clear HS' HEY HXY HN2
          replace HB : Hid (Below w.heap.size w V71) := hb.below HB.out (by omega)
          clear hb
          have s1 := str_of RY.out
          have s2 := str_of (HRT.out.below HB.out)
          go_wp2_with fail
          refine (nonce9_c bb key true 1 _ Hb.out).mono ?_
          rintro e V72 ⟨rfl, hw⟩
          rw [hw]
          clear hw V72
          go_wp2
          go_ret
          exact ⟨rfl, HB.out⟩
        · have q1 : ¬ (k : Int) < lT := by omega
          clear hc
          go_wp2_with fail
          refine (open9_yes bb key 0 none 0 0 [] (some ⟨gg, 0, none⟩) mg mg Xg _ Hb.out (by decide) (Rd.nil _ _ _ (fun _ => rfl)) Og.out (by decide) (by have := Hmg.out; omega)).mono ?_
          rintro e V71 ⟨aY, mY, cY, XY, EY, n2, rfl, HEY, HXY, HN2, RY, HS', hb⟩
          have e0 : EY = 0 := by rw [HEY.out, HXg.out, er6_back]
          subst e0
          have e1 : XY = text := by rw [HXY.out, HXg.out, op6_back _ _ _ HRT.out.byt]
          subst e1
          have e2 : n2 = 1 := by rw [HN2.out, if_pos rfl]; rfl
          subst e2
          replace Hb := HS'
          clear HS' HEY HXY HN2
          replace HB : Hid (Below w.heap.size w V71) := hb.below HB.out (by omega)
          clear hb
          have s1 := str_of RY.out
          have s2 := str_of (HRT.out.below HB.out)
          go_wp2_with fail
          refine (nonce9_c bb key true 1 _ Hb.out).mono ?_
          rintro e V72 ⟨rfl, hw⟩
          rw [hw]
          clear hw V72
          go_wp2
          go_ret
          exact ⟨rfl, HB.out⟩
end Go.Proofs.Ytjmdgmbkkkoamaa
